import unittest
from itertools import product as every
from unittest import mock

from fivebases import replies
from fivebases.checker import takes_expansion
from fivebases.errors import Malformed, NoText, Refused
from fivebases.fillings import count_fillings
from fivebases.insertion import pair_of_word
from fivebases.putting import put
from fivebases.ratio import Ratio
from fivebases.replies import is_right, reply_to
from fivebases.structure import in_base, inner, product, skewed, turned_function
from fivebases.symmetric import Symmetric, one, read_symmetric
from samples import BASES, like, sample
from values import values_of_all_kinds

NAMES = {
    "a": one("e", (2, 1)),
    "b": Symmetric("h", [((2,), 1), ((1, 1), Ratio(-1, 2))]),
    "c": Symmetric("s", [((3, 1), 2), ((1,), 1)]),
    "big": one("p", (8,)),
    "number": Symmetric("m", [((), Ratio(1, 2)), ((1,), 1)]),
    "zero": Symmetric("p", []),
}
TEXT = ("error", "text")
NAME = ("error", "refused name")


class ReplyCase(unittest.TestCase):
    def assert_reply(self, line, reply, names=None):
        """A reply to a line that defines nothing."""
        self.assertEqual(reply_to(NAMES if names is None else names, line), (reply, None), line)

    def assert_defines(self, line, f, names=None):
        reply, found = reply_to(NAMES if names is None else names, line)
        self.assertEqual(reply, ("function", str(f)), line)
        self.assertTrue(like(f.base, found, f), line)


class TestDefinitions(ReplyCase):
    def test_let(self):
        for text in ("e[2,1]", "0", "-1/2*m[] + m[1]", "p[8]"):
            self.assert_defines(f"let x = {text}", read_symmetric(text))
            self.assert_defines(f"let a={text}", read_symmetric(text), {})

    def test_two_functions(self):
        made = {"plus": lambda f, g: f + g, "minus": lambda f, g: f - g, "times": product, "skew": skewed}
        for word, make in made.items():
            for first, second in every(("a", "b", "c", "zero", "number"), repeat=2):
                self.assert_defines(f"{word} x {first} {second}", make(NAMES[first], NAMES[second]))

    def test_known_ones(self):
        self.assert_reply("change a m", ("function", "m[2,1] + 3*m[1,1,1]"))
        for line, text in [
                ("plus x a a", "2*e[2,1]"), ("minus x a a", "0"), ("plus x a b", "1/2*m[2] + m[2,1] + 3*m[1,1,1]"),
                ("minus x b c", "-m[1] + 1/2*m[2] - 2*m[3,1] - 2*m[2,2] - 4*m[2,1,1] - 6*m[1,1,1,1]"),
                ("times x b b", "h[2,2] - h[2,1,1] + 1/4*h[1,1,1,1]"), ("skew x c b", "s[1,1]"),
                ("turn x b", "-h[2] + 1/2*h[1,1]"), ("scale x -1/2 a", "-1/2*e[2,1]"), ("scale x 0 a", "0")]:
            self.assertEqual(reply_to(NAMES, line)[0], ("function", text), line)

    def test_put_is_the_second_one_into_the_first_one(self):
        names = {"f": one("h", (2,)), "g": one("e", (3,))}
        self.assert_defines("put x f g", put(names["f"], names["g"]), names)
        self.assert_defines("put x g f", put(names["g"], names["f"]), names)
        self.assertNotEqual(reply_to(names, "put x f g"), reply_to(names, "put x g f"))
        self.assert_defines("put x b b", put(NAMES["b"], NAMES["b"]))

    def test_scale_and_turn(self):
        for name in NAMES:
            for q in (Ratio(3), Ratio(-1, 7), Ratio(0)):
                self.assert_defines(f"scale x {q} {name}", NAMES[name].scaled(q))
            self.assert_defines(f"turn x {name}", turned_function(NAMES[name]))


class TestAnswers(ReplyCase):
    def test_change(self):
        for name, base in every(NAMES, BASES):
            self.assert_reply(f"change {name} {base}", ("function", str(in_base(NAMES[name], base))))

    def test_equal(self):
        names = dict(NAMES, other=in_base(NAMES["a"], "p"), nothing=Symmetric("s", []))
        for first, second in every(names, repeat=2):
            same = first == second or {first, second} in ({"a", "other"}, {"zero", "nothing"})
            self.assert_reply(f"equal {first} {second}", ("equal", "yes" if same else "no"), names)

    def test_pair(self):
        for first, second in every(NAMES, repeat=2):
            self.assert_reply(f"pair {first} {second}", ("number", str(inner(NAMES[first], NAMES[second]))))
        self.assert_reply("pair b b", ("number", "1/2"))
        self.assert_reply("pair big big", ("number", "8"))

    def test_count(self):
        for part, content in [((3, 2, 1), (1,) * 6), ((2, 1), (1, 1, 1)), ((2,), (1,)), ((), ()), ((), (1,)),
                              ((4, 2), (2, 2, 2)), ((2, 2, 2), (4, 2)), ((1,) * 8, (1,) * 8), ((4, 4), (1,) * 8)]:
            texts = [".".join(map(str, x)) or "0" for x in (part, content)]
            expected = ("number", str(count_fillings(part, content)))
            self.assert_reply("count " + " ".join(texts), expected)
        self.assert_reply("count 3.2.1 1.1.1.1.1.1", ("number", "16"))
        self.assert_reply("count 3.2.1 2.2.2", ("number", "2"))
        self.assert_reply("count 3 2", ("number", "0"))

    def test_insert(self):
        self.assert_reply("insert 212", ("pair", "1.2/2 | 1.3/2"))
        self.assert_reply("insert 7", ("pair", "7 | 1"))
        self.assert_reply("insert 123", ("pair", "1.2.3 | 1.2.3"))
        self.assert_reply("insert 321", ("pair", "1/2/3 | 1/2/3"))
        self.assert_reply("insert " + "9" * 12, ("pair", ".".join("9" * 12) + " | " + ".".join(map(str, range(1, 13)))))
        p, q = pair_of_word((5, 1, 4, 1, 3))
        texts = ["/".join(".".join(map(str, row)) for row in rows) for rows in (p, q)]
        self.assert_reply("insert 51413", ("pair", " | ".join(texts)))

    def test_empty_lines(self):
        for line in ("", "   ", "#", "# change q m"):
            self.assert_reply(line, ("done", ""))


class TestErrors(ReplyCase):
    def test_lines_that_are_none(self):
        for line in ("x", "turn a", "let a = x", "count 9 1", "insert 102", "turn a %", "turn\ta b", "x" * 2001, "A"):
            self.assert_reply(line, TEXT)
            self.assert_reply(line, TEXT, {})

    def test_values_that_are_no_strings(self):
        for value in values_of_all_kinds():
            self.assert_reply(value, TEXT if value != "" else ("done", ""))

    def test_names_that_are_not_defined(self):
        for word in ("plus", "minus", "times", "skew", "put"):
            for line in (f"{word} x q a", f"{word} x a q", f"{word} x q r", f"{word} q a q"):
                self.assert_reply(line, NAME)
            self.assert_reply(f"{word} a a a", NAME, {})
        for line in ("turn x q", "turn q q", "scale q 2 q", "change q m", "equal a q", "equal q a", "equal q q",
                     "pair a q", "pair q a", "change m m", "turn x x"):
            self.assert_reply(line, NAME)
            self.assert_reply(line, NAME, {})

    def test_names_come_before_all_that_is_computed(self):
        for line in ("times x big q", "times x q big", "put x big q", "put x q number", "put x number q"):
            self.assert_reply(line, NAME)

    def test_refused(self):
        self.assert_reply("times x big a", ("error", "refused degree"))
        self.assert_reply("times x a big", ("error", "refused degree"))
        self.assert_reply("put x big b", ("error", "refused degree"))
        self.assert_reply("put x a number", ("error", "refused constant"))
        self.assert_reply("put x zero number", ("error", "refused constant"))
        self.assert_reply("put x big number", ("error", "refused constant"))

    def test_each_kind_of_error(self):
        for error, text in [(Malformed("x"), "malformed"), (NoText(7), "text"), (Refused("word"), "refused word")]:
            with mock.patch.object(replies, "skewed", side_effect=error):
                self.assert_reply("skew x a b", ("error", text))

    def test_the_names_stay_as_they_are(self):
        names = dict(NAMES)
        for line in ("let a = m[1]", "let x = m[1]", "turn a a", "scale b 2 b", "turn q q", "change a m", "x"):
            reply_to(names, line)
            is_right(names, (line, reply_to(names, line)[0]))
            self.assertEqual(list(names), list(NAMES))
            self.assertTrue(all(names[name] is NAMES[name] for name in NAMES))


LINES = [
    "let x = e[2,1]", "let x = e[2, 1]", "plus x a b", "minus x a q", "times x big a", "skew x c b", "put x b b",
    "put x a number", "scale x 1/2 a", "turn x c", "turn a c", "plus a a b", "equal a b", "equal a a", "equal a q",
    "pair b b", "pair q q", "count 2.1 1.1.1", "insert 212", "", "# x", "nothing", "change q m", 5, None, True, ("turn a b",), ["x"]]
REPLIES = [
    ("function", "e[2,1]"), ("function", "0"), ("equal", "yes"), ("equal", "no"), ("number", "0"), ("number", "2"),
    ("pair", "1.2/2 | 1.3/2"), ("done", ""), TEXT, NAME, ("error", "malformed"), ("error", "refused degree")]


class TestIsRight(ReplyCase):
    def test_other_lines_than_changes(self):
        for line in LINES:
            right = reply_to(NAMES, line)[0]
            self.assertIs(is_right(NAMES, (line, right)), True, line)
            kind, text = right
            for reply in REPLIES + [(kind, text + " "), (kind.upper(), text), (kind, "x" + text), (text, kind)]:
                self.assertIs(is_right(NAMES, (line, reply)), reply == right, (line, reply))
            for reply in (list(right), right + ("",), (kind,), (), kind, text, (right,), None, True, 0, (kind, None),
                          (kind, [text]), (None, text), ((kind, text), ""), [kind, text], (kind, 0), (True, False)):
                self.assertIs(is_right(NAMES, (line, reply)), False, (line, reply))

    def test_entries_of_other_forms(self):
        right = ("equal a a", ("equal", "yes"))
        self.assertIs(is_right(NAMES, right), True)
        for entry in values_of_all_kinds() + [
                list(right), right + ("",), right[:1], (right,), [right], ("equal a a", "equal", "yes"), right[0],
                ("equal a a", "equal yes"), right[::-1], (), ("", ""), (("", ""), "")]:
            self.assertIs(is_right(NAMES, entry), False, entry)
            self.assertIs(is_right({}, entry), False, entry)

    def test_lines_of_every_value(self):
        for line in values_of_all_kinds():
            self.assertIs(is_right(NAMES, (line, TEXT)), line != "", line)
            self.assertIs(is_right(NAMES, (line, ("done", ""))), line == "", line)

    def test_right_changes(self):
        for name, base in every(NAMES, BASES):
            f = in_base(NAMES[name], base)
            for line in (f"change {name} {base}", f"  change   {name}  {base} "):
                self.assertIs(is_right(NAMES, (line, ("function", str(f)))), True, (name, base))

    def test_wrong_changes(self):
        for name, base in every(NAMES, BASES):
            line, right = f"change {name} {base}", str(in_base(NAMES[name], base))
            texts = [str(in_base(NAMES[other], letter)) for other, letter in every(NAMES, BASES)]
            texts += [right + " ", " " + right, "+" + right, right.replace("[", "(", 1), right.upper(), "", "1",
                      right + " + " + right, "1*" + right, right.replace(" ", "  "), right + f" + 0*{base}[8]"]
            for text in texts:
                self.assertIs(is_right(NAMES, (line, ("function", text))), text == right, (line, text))
            for reply in (("number", right), ("functions", right), ("error", right), ["function", right], right, None,
                          ("function", right, ""), ("function",), (), ("function", None), ("function", True),
                          ("function", 0), ("function", [right]), ("function", (right,)), (right, "function"), NAME,
                          (True, right), (None, None), TEXT, ("done", "")):
                self.assertIs(is_right(NAMES, (line, reply)), False, (line, reply))

    def test_the_order_of_terms_and_zeros_of_changes(self):
        line = "change a m"
        for text, right in [
                ("m[2,1] + 3*m[1,1,1]", True), ("3*m[1,1,1] + m[2,1]", False), ("m[2,1] + m[1,1,1]", False),
                ("1*m[2,1] + 3*m[1,1,1]", False), ("m[2,1] + 6/2*m[1,1,1]", False), ("0*m[3] + m[2,1]", False),
                ("e[2,1]", False), ("s[2,1] + s[1,1,1]", False), ("0", False)]:
            self.assertIs(is_right(NAMES, (line, ("function", text))), right, text)
        for base in BASES:
            self.assertIs(is_right(NAMES, (f"change zero {base}", ("function", "0"))), True)
            self.assertIs(is_right(NAMES, (f"change zero {base}", ("function", f"0*{base}[1]"))), False)
            self.assertIs(is_right(NAMES, (f"change zero {base}", ("function", ""))), False)

    def test_changes_of_names_that_are_not_defined(self):
        self.assertIs(is_right(NAMES, ("change q m", NAME)), True)
        self.assertIs(is_right({}, ("change a m", NAME)), True)
        self.assertIs(is_right(NAMES, ("change a m", NAME)), False)
        self.assertIs(is_right({}, ("change a m", ("function", "0"))), False)
        self.assertIs(is_right(NAMES, ("change a x", TEXT)), True)
        self.assertIs(is_right(NAMES, ("change a x", ("function", "0"))), False)

    def test_the_checker_alone_decides_changes(self):
        entry = ("change a m", ("function", "m[2,1] + 3*m[1,1,1]"))
        with mock.patch.object(replies, "in_base", side_effect=AssertionError):
            with mock.patch.object(replies, "reply_to", side_effect=AssertionError):
                self.assertIs(is_right(NAMES, entry), True)
        asked = []

        def answer(f, paper):
            asked.append((f, paper))
            return len(asked) == 1

        with mock.patch.object(replies, "takes_expansion", answer):
            self.assertIs(is_right(NAMES, ("change a s", ("function", "2*s[1]"))), True)
            self.assertIs(is_right(NAMES, ("change a s", ("function", "0"))), False)
        self.assertEqual(asked, [
            (NAMES["a"], ("expansion", "s", (((1,), Ratio(2)),))), (NAMES["a"], ("expansion", "s", ()))])
        self.assertIs(takes_expansion(*asked[0]), False)

    def test_the_greatest_degree(self):
        names = {base: sample(base, (8,)) for base in BASES}
        for name, base in [("m", "h"), ("h", "s"), ("p", "e"), ("s", "p"), ("e", "m")]:
            reply = reply_to(names, f"change {name} {base}")[0]
            self.assertIs(is_right(names, (f"change {name} {base}", reply)), True)
            self.assertIs(is_right(names, (f"change {name} {base}", (reply[0], "-" + reply[1]))), False)


if __name__ == "__main__":
    unittest.main()
