import unittest

from fivebases.console import Console
from fivebases.errors import Malformed, NoText
from fivebases.log import first_wrong, read_log, write_log
from values import same, values_of_all_kinds

ENTRIES = [
    ("let a = e[2,1]", ("function", "e[2,1]")),
    ("", ("done", "")),
    ("   # ", ("error", "text")),
    ("insert 212", ("pair", "1.2/2 | 1.3/2")),
    ("> = ", ("abcdefgh", " = > ")),
    ("a\tb\r\x00\u2028", ("x", "\t\r\u2028\x0b%")),
    ("x" * 3000, ("y", "z" * 3000)),
]
TEXT = (
    "> let a = e[2,1]\n= function e[2,1]\n> \n= done \n>    # \n= error text\n> insert 212\n= pair 1.2/2 | 1.3/2\n"
    "> > = \n= abcdefgh  = > \n> a\tb\r\x00\u2028\n= x \t\r\u2028\x0b%\n"
    + "> " + "x" * 3000 + "\n= y " + "z" * 3000 + "\n")
SESSION = [
    "let a = e[2,1]", "change a m", "let a = h[2]", "change a m", "times b a a", "pair b b", "change c m", "plus c a d",
    "put c a b", "nothing", "", "# end", "skew c b a", "equal a c", "turn a a", "change a s", "insert 3121",
    "count 2.2 1.1.1.1", "scale a -1/2 a", "minus a a a", "change a p", "times c b b", "times c c b"]


def entries_of(lines):
    console = Console()
    for line in lines:
        console.enter(line)
    return console.entries()


class TestWriteLog(unittest.TestCase):
    def assert_malformed(self, entries):
        with self.assertRaises(Malformed):
            write_log(entries)

    def test_the_written_form(self):
        self.assertEqual(write_log(ENTRIES), TEXT)
        self.assertEqual(write_log([]), "")
        self.assertEqual(write_log([("a", ("b", "c"))]), "> a\n= b c\n")
        self.assertEqual(write_log([("", ("done", ""))] * 2), "> \n= done \n> \n= done \n")

    def test_items_that_are_no_entries(self):
        spoilt = [
            ("a",), ("a", ("b", "c"), "d"), ["a", ("b", "c")], ("a", ["b", "c"]), ("a", "b", "c"), ("a", "bc"),
            ("a", ("b",)), ("a", ("b", "c", "d")), ("a", ()), (), "ab", (("b", "c"), "a"), (("a", ("b", "c")),),
            (1, ("b", "c")), (None, ("b", "c")), (True, ("b", "c")), (("a",), ("b", "c")), (["a"], ("b", "c")),
            ("a\n", ("b", "c")), ("\n", ("b", "c")), ("a\nb", ("b", "c")), ("a", ("b", "c\n")), ("a", ("b", "\n")),
            ("a", ("", "c")), ("a", ("B", "c")), ("a", ("b1", "c")), ("a", ("b c", "c")), ("a", (" b", "c")),
            ("a", ("b\n", "c")), ("a", ("abcdefghi", "c")), ("a", ("\u00e4", "c")), ("a", (1, "c")), ("a", (None, "c")),
            ("a", (True, "c")), ("a", (("b",), "c")), ("a", ("b", 1)), ("a", ("b", None)), ("a", ("b", ("c",)))]
        for entry in spoilt + values_of_all_kinds():
            self.assert_malformed([entry])
            self.assert_malformed([("a", ("b", "c")), entry])
            self.assert_malformed([entry, ("a", ("b", "c"))])
        for line in values_of_all_kinds():
            if not isinstance(line, str) or "\n" in line:
                self.assert_malformed([(line, ("b", "c"))])
                self.assert_malformed([("a", ("b", line))])
                self.assert_malformed([("a", (line, "c"))])

    def test_an_entry_of_a_console_that_is_no_string(self):
        self.assert_malformed(entries_of(["", 5]))

    def test_the_list_stays_as_it_is(self):
        entries = list(ENTRIES)
        write_log(entries)
        self.assertEqual(entries, ENTRIES)


class TestReadLog(unittest.TestCase):
    def assert_no_log(self, text, at):
        with self.assertRaises(NoText) as caught:
            read_log(text)
        self.assertEqual(caught.exception.at, at, text)

    def test_what_was_written(self):
        self.assertTrue(same(read_log(TEXT), ENTRIES))
        self.assertTrue(same(read_log(""), []))
        self.assertTrue(same(read_log("> \n= a \n"), [("", ("a", ""))]))
        entries = entries_of(SESSION)
        self.assertTrue(same(read_log(write_log(entries)), entries))
        for k in range(len(ENTRIES)):
            self.assertTrue(same(read_log(write_log(ENTRIES[:k])), ENTRIES[:k]))

    def test_a_text_read_is_written_again(self):
        for text in ("", "> \n= a \n", "> >\n= a =\n> =\n= b  \n"):
            self.assertEqual(write_log(read_log(text)), text)

    def test_first_lines(self):
        for line in ("", ">", ">a", " > a", "= a b", "a", "> ".strip(), "< a", ">  "[:1], "\t> a", "\r", "=", "\u2028> a"):
            self.assert_no_log(f"{line}\n= b c\n", 0)
            self.assert_no_log(f"> a\n= b c\n{line}\n= b c\n", 2)
            self.assert_no_log(f"> a\n= b c\n> a\n= b c\n{line}\n", 4)
            self.assert_no_log(f"{line}\nx\ny\n", 0)

    def test_second_lines(self):
        for line in ("", "=", "= ", "=b c", " = b c", "> a", "b c", "= b", "= bc", "=  b c", "= B c", "= b1 c", "= abcdefghi c",
                     "=  c", "= b\tc", "= \u00e4 c", "== b c", "= = b c", "> b c", "=\tb c", "= b.c", "= "):
            self.assert_no_log(f"> a\n{line}\n", 1)
            self.assert_no_log(f"> a\n= b c\n> \n{line}\n", 3)
            self.assert_no_log(f"> a\n{line}\n> a\n= b c\n", 1)
            self.assert_no_log(f"> a\n{line}\nx", 1)

    def test_the_first_of_several(self):
        self.assert_no_log("x\ny\nz", 0)
        self.assert_no_log("> a\n= b c\n= b c\n> a\n", 2)
        self.assert_no_log("> a\n= b c\n> a\n> a\n= b c\n", 3)
        self.assert_no_log("\n", 0)
        self.assert_no_log("> a\n= b c\n\n", 2)
        self.assert_no_log("> a\n\n= b c\n", 1)

    def test_the_end_within_an_entry_or_without_a_line_feed(self):
        self.assert_no_log("> a\n", 1)
        self.assert_no_log("> a\n= b c\n> d\n", 3)
        self.assert_no_log("> a\n= b c", 1)
        self.assert_no_log("> a", 0)
        self.assert_no_log("x", 0)
        self.assert_no_log(" ", 0)
        self.assert_no_log("> a\n= b c\n> d", 2)
        self.assert_no_log("> a\n= b c\nx", 2)
        self.assert_no_log("> a\n= b c\n ", 2)
        self.assert_no_log("> a\n= b c\n> d\n= e f", 3)
        self.assert_no_log("> a\nx", 1)

    def test_each_beginning_of_a_log(self):
        text = write_log(ENTRIES[:4])
        ends = [len(write_log(ENTRIES[:k])) for k in range(5)]
        for at in range(len(text) + 1):
            if at in ends:
                self.assertEqual(read_log(text[:at]), ENTRIES[:ends.index(at)])
            else:
                self.assert_no_log(text[:at], text[:at].count("\n"))

    def test_values_that_are_no_strings(self):
        for value in values_of_all_kinds():
            if not isinstance(value, str):
                self.assert_no_log(value, 0)


class TestFirstWrong(unittest.TestCase):
    def test_what_a_console_wrote_is_right(self):
        self.assertEqual(first_wrong(entries_of(SESSION)), -1)
        self.assertEqual(first_wrong([]), -1)
        self.assertEqual(first_wrong(entries_of([5, None, "let a = m[1]", ["a"], "turn b a"])), -1)

    def test_each_spoilt_entry_is_found(self):
        entries = entries_of(SESSION)
        for k, (line, (kind, text)) in enumerate(entries):
            item = (line, (kind, text + "x"))
            self.assertEqual(first_wrong(entries[:k] + [item] + entries[k + 1:]), k)
        for k in (0, 1, 6, 9):
            line, (kind, text) = entries[k]
            for item in [(line, ("x", text)), (line, [kind, text]), [line, (kind, text)], (line, (kind, text), 0),
                         (line,), line, None, 5, (), (line, None), (line, (kind, None))]:
                self.assertEqual(first_wrong(entries[:k] + [item, None]), k)

    def test_definitions_change(self):
        one, other = ("let a = e[2]", ("function", "e[2]")), ("let a = h[2]", ("function", "h[2]"))
        of_one, of_other = ("change a m", ("function", "m[1,1]")), ("change a m", ("function", "m[2] + m[1,1]"))
        no_name = ("change a m", ("error", "refused name"))
        self.assertEqual(first_wrong([one, of_one, other, of_other, one, of_one]), -1)
        self.assertEqual(first_wrong([one, other, of_one]), 2)
        self.assertEqual(first_wrong([one, of_other]), 1)
        self.assertEqual(first_wrong([no_name, one, of_one]), -1)
        self.assertEqual(first_wrong([of_one, one, of_one]), 0)
        self.assertEqual(first_wrong([no_name, one, no_name]), 2)
        twice = ("plus a a a", ("function", "2*e[2]"))
        self.assertEqual(first_wrong([one, twice, ("pair a a", ("number", "4"))]), -1)
        self.assertEqual(first_wrong([one, twice, ("pair a a", ("number", "1"))]), 2)

    def test_errors_and_changes_define_nothing(self):
        entries = [
            ("let a = e[2]", ("function", "e[2]")), ("change a m", ("function", "m[1,1]")),
            ("change a e", ("function", "e[2]")), ("times a a big", ("error", "refused name")),
            ("let a = e[9]", ("error", "text")), ("change a m", ("function", "m[1,1]"))]
        self.assertEqual(first_wrong(entries), -1)

    def test_items_of_every_kind(self):
        for value in values_of_all_kinds():
            self.assertEqual(first_wrong([value]), 0)
            self.assertEqual(first_wrong([("", ("done", "")), value, value]), 1)
            self.assertEqual(first_wrong([(value, ("error", "text"))]), 0 if value == "" else -1)
            self.assertEqual(first_wrong([("x", value)]), 0)
            self.assertEqual(first_wrong([("x", ("error", value))]), 0)


if __name__ == "__main__":
    unittest.main()
