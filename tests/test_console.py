import unittest
from itertools import product

from fivebases.console import Console
from fivebases.errors import Refused
from fivebases.log import first_wrong
from fivebases.replies import reply_to
from fivebases.symmetric import one
from values import same, values_of_all_kinds

DEFINING = [
    ("let x = e[2,1]", "e[2,1]"), ("plus x a a", "2*h[2]"), ("minus x a a", "0"), ("times x a a", "h[2,2]"),
    ("skew x a b", "h[1]"), ("put x a b", "h[2]"), ("scale x 1/2 a", "1/2*h[2]"), ("turn x a", "-h[2] + h[1,1]")]
OTHERS = ["change a m", "change q m", "equal a b", "pair a b", "count 2 1.1", "insert 21", "", "# x", "let x = q",
          "plus x a q", "times x x x", "turn x q", "scale x 2/4 a", "nothing", 5, None, ["let x = e[1]"]]


def filled(many):
    console = Console()
    for k in range(many):
        console.enter("" if k > 0 else "let a = h[2]")
    return console


def begun():
    console = Console()
    console.enter("let a = h[2]")
    console.enter("let b = e[1]")
    return console


class TestEnter(unittest.TestCase):
    def test_example_of_the_interface(self):
        self.assertEqual(Console().enter("let a = e[2,1]"), ("function", "e[2,1]"))

    def test_replies_and_entries(self):
        console = Console()
        lines = ["let a = h[2]", "let b = e[1]"] + [line for line, _ in DEFINING] + OTHERS
        entries = []
        for line in lines:
            expected = reply_to(console.names(), line)[0]
            reply = console.enter(line)
            entries.append((line, reply))
            self.assertTrue(same(reply, expected), line)
            self.assertTrue(same(console.entries(), entries), line)
            self.assertEqual(len(console), len(entries))
        self.assertEqual(first_wrong(console.entries()), -1)

    def test_values_that_are_no_strings(self):
        console = Console()
        for k, value in enumerate(values_of_all_kinds()):
            self.assertEqual(console.enter(value), ("error", "text") if value != "" else ("done", ""))
            self.assertIs(console.entries()[k][0], value)
        self.assertEqual(console.names(), {})

    def test_a_new_console(self):
        console = Console()
        self.assertEqual((len(console), console.entries(), console.names()), (0, [], {}))


class TestDefinitions(unittest.TestCase):
    def test_lines_that_define(self):
        for line, text in DEFINING:
            console = begun()
            self.assertEqual(console.enter(line), ("function", text), line)
            self.assertEqual(sorted(console.names()), ["a", "b", "x"])
            self.assertEqual(str(console.names()["x"]), text)
            console.enter(line.replace(" x", " a", 1))
            self.assertEqual(sorted(console.names()), ["a", "b", "x"])
            self.assertEqual(str(console.names()["a"]), text)

    def test_lines_that_define_nothing(self):
        console = begun()
        for line in OTHERS:
            console.enter(line)
            names = console.names()
            self.assertEqual({name: str(names[name]) for name in names}, {"a": "h[2]", "b": "e[1]"}, line)

    def test_a_change_does_not_change_what_is_kept(self):
        console = begun()
        self.assertEqual(console.enter("change a p"), ("function", "1/2*p[2] + 1/2*p[1,1]"))
        self.assertEqual(console.names()["a"].base, "h")

    def test_definitions_follow_each_other(self):
        console = begun()
        self.assertEqual(console.enter("plus a a a"), ("function", "2*h[2]"))
        self.assertEqual(console.enter("times b b a"), ("function", "-2*e[2,1] + 2*e[1,1,1]"))
        self.assertEqual(console.enter("turn b b"), ("function", "2*e[2,1]"))
        self.assertEqual(console.enter("skew a a b"), ("function", "0"))


class TestNothingIsShared(unittest.TestCase):
    def test_two_consoles(self):
        first, second = Console(), Console()
        first.enter("let a = e[1]")
        self.assertEqual((len(second), second.entries(), second.names()), (0, [], {}))
        second.enter("let a = m[2]")
        self.assertEqual([str(x.names()["a"]) for x in (first, second)], ["e[1]", "m[2]"])
        self.assertEqual((len(first), len(second)), (1, 1))

    def test_entries_and_names_are_new_each_time(self):
        console = begun()
        entries, names = console.entries(), console.names()
        self.assertIsInstance(entries, list)
        self.assertIsInstance(names, dict)
        before = list(entries)
        entries.clear()
        names["c"] = one("s", (1,))
        del names["a"]
        self.assertEqual(console.entries(), before)
        self.assertEqual(sorted(console.names()), ["a", "b"])
        self.assertEqual(console.enter("equal c a"), ("error", "refused name"))
        self.assertEqual(len(console), 3)
        self.assertEqual(entries, [])


class TestLimit(unittest.TestCase):
    def test_500_lines(self):
        console = filled(499)
        self.assertEqual(console.enter("let b = e[1]"), ("function", "e[1]"))
        self.assertEqual(len(console), 500)
        entries = console.entries()
        for line in ("let c = e[1]", "let a = m[1]", "", "x", "# x", 5, "change q m", "let a = e[1]"):
            with self.assertRaises(Refused) as caught:
                console.enter(line)
            self.assertEqual(caught.exception.reason, "lines")
            self.assertEqual(len(console), 500)
            self.assertEqual(console.entries(), entries)
            names = console.names()
            self.assertEqual({name: str(names[name]) for name in names}, {"a": "h[2]", "b": "e[1]"})

    def test_errors_count_as_lines(self):
        console = Console()
        for line, _ in product(["x", 5], range(250)):
            console.enter(line)
        with self.assertRaises(Refused):
            console.enter("")


if __name__ == "__main__":
    unittest.main()
