import unittest

from fivebases.errors import NoText
from fivebases.ratio import Ratio
from fivebases.sheet import is_name, read_line
from fivebases.symmetric import Symmetric, one, read_symmetric
from reading import ReadingCase
from values import same, values_of_all_kinds

E21 = one("e", (2, 1))
COMMANDS = [
    ("plus a b c", ("plus", "a", "b", "c")),
    ("minus sum a bb", ("minus", "sum", "a", "bb")),
    ("times x x x", ("times", "x", "x", "x")),
    ("skew let plus put", ("skew", "let", "plus", "put")),
    ("put a abcdefgh z", ("put", "a", "abcdefgh", "z")),
    ("scale a 1/2 b", ("scale", "a", Ratio(1, 2), "b")),
    ("scale a -30 a", ("scale", "a", Ratio(-30), "a")),
    ("scale a 0 a", ("scale", "a", Ratio(0), "a")),
    ("turn a b", ("turn", "a", "b")),
    ("change a m", ("change", "a", "m")),
    ("change m s", ("change", "m", "s")),
    ("equal a b", ("equal", "a", "b")),
    ("pair b a", ("pair", "b", "a")),
    ("count 3.2.1 2.2.2", ("count", (3, 2, 1), (2, 2, 2))),
    ("count 0 8", ("count", (), (8,))),
    ("count 1.1.1.1.1.1.1.1 0", ("count", (1,) * 8, ())),
    ("insert 212", ("insert", (2, 1, 2))),
    ("insert 9", ("insert", (9,))),
    ("insert 12345678912345678912", ("insert", (1, 2, 3, 4, 5, 6, 7, 8, 9) * 2 + (1, 2))),
]
FUNCTIONS = ["0", "e[2,1]", "-m[] + 1/3*m[1]", "2*p[3] - p[2,1] + 7/5*p[8]", "s[1,1,1,1,1,1,1,1]"]


class SheetCase(ReadingCase):
    def assert_read(self, line, command):
        found = read_line(line)
        if command[0] == "let":
            self.assertEqual(found[:2], command[:2])
            self.assertEqual((len(found), found[2].base, found[2].terms), (3, command[2].base, command[2].terms))
        else:
            self.assertTrue(same(found, command), (line, found))

    def assert_none(self, lines):
        for line in lines:
            self.assert_no_text(read_line, line)


class TestCommands(SheetCase):
    def test_each_form_with_one_space_and_with_several(self):
        for line, command in COMMANDS:
            self.assert_read(line, command)
            self.assert_read(line.replace(" ", "   "), command)
            self.assert_read("  " + line + "    ", command)

    def test_each_form_with_words_too_many_few_or_run_together(self):
        for line, _ in COMMANDS:
            words = line.split()
            for k in range(len(words)):
                if words[:k]:
                    self.assert_none([" ".join(words[:k])])
                self.assert_none([" ".join(words[:k] + [words[k]] * 2 + words[k + 1:])])
            self.assert_none(["".join(words), line + " a", line + " #", line + ".", line + ",", "#".join(words)])

    def test_other_first_words(self):
        for line, _ in COMMANDS:
            self.assert_none([line.capitalize(), "x" + line, line[1:], line.upper(), "." + line])
        self.assert_none(["a", "a b", "a b c", "a b c d", "=", "a = e[1]", "plusa b c", "empty", "function a", "let", "0"])

    def test_wrong_words_at_each_place(self):
        for word in ("plus", "minus", "times", "skew", "put"):
            for name in ("A", "a1", "abcdefghi", "a,b", "1", "a.", "a=b", "-a", "a_b"):
                self.assert_none([f"{word} {name} a b", f"{word} a {name} b", f"{word} a b {name}"])
        for word in ("equal", "pair", "turn"):
            self.assert_none([f"{word} A b", f"{word} a B", f"{word} a b2", f"{word} abcdefghi a", f"{word} a 1"])
        self.assert_none(["scale 1 a b", "scale a b 1", "scale a b c", "scale A 1 b", "scale a 1 B"])
        self.assert_none(f"scale a {q} b" for q in ("1/1", "2/4", "01", "-0", "1/0", "+1", "1/-2", "1.5", "--1", "1/"))
        self.assert_none(f"change a {b}" for b in ("a", "M", "ms", "1", "x", "[m]"))
        self.assert_none(["change A m", "change 1 m", "change m[1] m"])

    def test_partitions(self):
        spoilt = ["9", "8.1", "1.2", "3..1", "3.", ".3", "3.0", "00", "03", "3,1", "-1", "a", "4.4.1",
                  "1.1.1.1.1.1.1.1.1", "1" + "0" * 300, "()"]
        self.assert_none(f"count {part} 1" for part in spoilt)
        self.assert_none(f"count 1 {part}" for part in spoilt)

    def test_digits(self):
        for many in (1, 2, 19, 20):
            self.assert_read("insert " + "7" * many, ("insert", (7,) * many))
        self.assert_none(["insert", "insert 0", "insert 10", "insert 101", "insert 1 2", "insert 1.2", "insert -1",
                          "insert a", "insert 1a", "insert " + "1" * 21, "insert " + "1" * 100])


class TestLet(SheetCase):
    def test_spaces_around_the_sign(self):
        for text in FUNCTIONS:
            f = read_symmetric(text)
            for sign in ("=", " = ", " =", "= ", "    =", "=     "):
                self.assert_read(f"let a{sign}{text}", ("let", "a", f))
                self.assert_read(f"  let    a{sign}{text}    ", ("let", "a", f))

    def test_names(self):
        for name in ("a", "z", "let", "abcdefgh", "empty"):
            self.assert_read(f"let {name} = e[2,1]", ("let", name, E21))
        for name in ("", "A", "abcdefghi", "a1", "a b", "1", "a.b", "#", "let a", "-"):
            self.assert_none([f"let {name} = e[2,1]", f"let {name}=e[2,1]"])

    def test_texts_of_no_function(self):
        for text in ("", " ", "e[2, 1]", "e[2,1] +e[1]", "e[1]  + e[2]", "e[2] + e[1]", "e[1] + h[2]", "e[9]", "1",
                     "+e[1]", "1*e[1]", "e[1] = e[1]", "= e[1]", "e [1]", "E[1]", "a", "e[1] e[2]", "- e[1]", "-0"):
            self.assert_none([f"let a = {text}"])

    def test_without_the_sign(self):
        self.assert_none(["let", "let a", "let a e[2,1]", "let = e[1]", "let=e[1]", "leta=e[1]", "let a == e[1]",
                          "leta = e[1]", "= let a", "let a : e[1]"])

    def test_long_numbers(self):
        digits = "7" * 1900
        command = read_line(f"let a = {digits}*e[1]")
        self.assertEqual(command[2], one("e", (1,)).scaled(Ratio(int(digits))))


class TestLines(SheetCase):
    def test_lines_without_a_command(self):
        for line in ("", " ", "     ", "#", "# let a", "#let a = x", "#####", "#" + "x" * 1999, " " * 2000):
            self.assertEqual(read_line(line), ("empty",))

    def test_a_sign_that_is_not_the_first_character(self):
        self.assert_none([" #", " # x", "x #", "a#"])

    def test_lengths(self):
        line = "turn a b"
        for longest in (line + " " * 1992, " " * 1992 + line, "turn" + " " * 1993 + "a b"):
            self.assertEqual(len(longest), 2000)
            self.assert_read(longest, ("turn", "a", "b"))
            self.assert_none([longest + " ", longest + "x", " " + longest])
        self.assert_none([" " * 2001, "#" + "x" * 2000, "x" * 10 ** 6, "#" * 10 ** 6])

    def test_characters(self):
        for sign in ("%", "\t", "\n", "\r", "\x00", "\x1f", "\x7f", "\x80", "\u00a0", "\u2028", "\u0661", "\u00e4", "\U0001f600"):
            self.assert_none([f"turn a{sign}b", f"turn a b{sign}", f"{sign}turn a b", f"turn{sign} a b", sign,
                              f"#{sign}", f"# a {sign} b", f"let a = e[1]{sign}", f"insert 12{sign}"])
        every_other = "".join(chr(k) for k in range(32, 127) if k != 37)
        self.assertEqual(read_line("#" + every_other), ("empty",))

    def test_every_value_that_is_no_line(self):
        for value in values_of_all_kinds():
            if not isinstance(value, str):
                self.assert_no_text(read_line, value)
            elif value not in ("",):
                self.assert_no_text(read_line, value)

    def test_the_error_is_at_0(self):
        for line in ("x", "turn a", "let a = x", "scale a 2/4 b", "count 9 1", "insert 0", "change a x"):
            with self.assertRaises(NoText) as caught:
                read_line(line)
            self.assertEqual(caught.exception.at, 0)


class TestIsName(unittest.TestCase):
    def test_strings(self):
        for name in ("a", "z", "abcdefgh", "zzzzzzzz", "let", "m"):
            self.assertIs(is_name(name), True)
        for name in ("", "abcdefghi", "A", "aB", "Abc", "a1", "1", "a b", " a", "a ", "a\n", "\n", "a_b", "_", "a-b",
                     "\u00e4", "a\u00e4", "\u00aa", "\u03b1", "{", "`", "a.b", "\u2171", "x" * 10 ** 6):
            self.assertIs(is_name(name), False, name)

    def test_every_value(self):
        for value in values_of_all_kinds():
            self.assertIs(is_name(value), isinstance(value, str) and value in ("a", "m", "me"), value)
        self.assertIs(is_name(("a",)), False)
        self.assertIs(is_name(["a"]), False)


class TestFunctions(SheetCase):
    def test_a_function_is_read_as_a_symmetric(self):
        for text in FUNCTIONS:
            command = read_line("let a = " + text)
            self.assertIsInstance(command[2], Symmetric)
            self.assertEqual(str(command[2]), text)


if __name__ == "__main__":
    unittest.main()
