"""Point 88: the lines that a desk obeys."""

from itertools import product

from forkflags.commands import format_line, parse_line
from forkflags.desk import Desk
from forkflags.errors import InvalidLine
from tests.helpers import NO_NAMES, Case
from tests.test_lines import NO_NUMBERS, NO_RECORDS, RECORDS

NAMES = ["a", "b", "zz", "abcdefgh", "undo", "write"]
WRONG_NAMES = [value for value in NO_NAMES if isinstance(value, str) and " " not in value] + ["a\t", "1", ">"]


def all_deeds():
    """List a deed of each kind for each name, record and number of steps."""
    deeds = [("undo",), ("redo",)]
    deeds += [("write", name, text) for name, text in product(NAMES, RECORDS)]
    deeds += [("cut", name, text, steps) for name, text, steps in product(NAMES[:3], RECORDS, [0, 1, 9, 10, 399, 400])]
    deeds += [("admit", writer, beside) for writer, beside in product(NAMES, NAMES)]
    return deeds + [("dismiss", name) for name in NAMES]


def written(deed):
    """Write a deed without the program."""
    if deed[0] == "cut":
        deed = ("cut", deed[1], str(deed[3]), deed[2])
    return " ".join(deed)


class ReadTest(Case):

    def test_examples(self):
        self.gives(("cut", "a", "x y", 3), parse_line, "cut a 3 x y")
        self.gives(("write", "b", ""), parse_line, "write b ")
        self.gives(("write", "a", " x"), parse_line, "write a  x")
        self.gives(("cut", "a", "", 3), parse_line, "cut a 3 ")

    def test_all_deeds(self):
        for deed in all_deeds():
            self.gives(deed, parse_line, written(deed))

    def test_steps(self):
        for steps in range(401):
            self.gives(("cut", "a", "x", steps), parse_line, f"cut a {steps} x")
        self.assertEqual(Desk.MOST_STEPS, 400)
        wrong = [text for text in NO_NUMBERS if " " not in text]
        for text in [*wrong, "401", "402", "500", "1000", "0400", "400.", str(10 ** 30)]:
            self.fails(InvalidLine, {}, parse_line, f"cut a {text} x")
            self.fails(InvalidLine, {}, parse_line, f"cut a {text} ")
            self.fails(InvalidLine, {}, parse_line, f"cut a {text}")

    def test_texts(self):
        for text in [text for text in NO_RECORDS if isinstance(text, str)]:
            self.fails(InvalidLine, {}, parse_line, f"write a {text}")
            self.fails(InvalidLine, {}, parse_line, f"cut a 1 {text}")
        self.gives(("write", "a", "cut a 3 x"), parse_line, "write a cut a 3 x")
        self.gives(("cut", "a", " 3  ", 0), parse_line, "cut a 0  3  ")
        self.gives(("write", "a", "   "), parse_line, "write a    ")

    def test_names(self):
        for name in WRONG_NAMES:
            for line in [
                f"write {name} x", f"cut {name} 3 x", f"admit {name} b", f"admit b {name}", f"dismiss {name}",
                f"write {name}", f"dismiss {name} ", f"admit {name} {name}",
            ]:
                self.fails(InvalidLine, {}, parse_line, line)

    def test_spaces(self):
        for line in [
            "write a", "write", "write ", "write  a x", " write a x", "write  a", "writea x", "cut a 3", "cut a 3x",
            "cut a", "cut", "cut ", "cut  a 3 x", "cut a  3 x", " cut a 3 x", "cut 3 a x", "cut a x 3", "admit a",
            "admit", "admit a b ", "admit a  b", "admit  a b", " admit a b", "admit a b c", "admit ab", "dismiss",
            "dismiss ", "dismiss a ", "dismiss  a", " dismiss a", "dismiss a b", "undo ", " undo", "undo undo", "undo a",
            "redo ", " redo", "redo\n", "undo\n", "redo redo", "redo 1", "\tundo", "undo\t", "dismiss a\n", "admit a b\n",
        ]:
            self.fails(InvalidLine, {}, parse_line, line)

    def test_other_words(self):
        for line in [
            "", " ", "  ", "Write a x", "WRITE a x", "wrote a x", "undone", "Undo", "batch", "write\ta x", "cuts a 3 x",
            "limit 3", "a", "\n", "un do", "write\u00a0a x", "0", "x" * 5000,
        ]:
            self.fails(InvalidLine, {}, parse_line, line)


class WriteTest(Case):

    def test_all_deeds(self):
        for deed in all_deeds():
            self.gives(written(deed), format_line, deed)

    def test_there_and_back(self):
        for deed in all_deeds():
            self.assertEqual(parse_line(format_line(deed)), deed)
            self.assertEqual(format_line(parse_line(written(deed))), written(deed))

    def test_written_out(self):
        self.gives("write a  x", format_line, ("write", "a", " x"))
        self.gives("write a ", format_line, ("write", "a", ""))
        self.gives("cut a 3 ", format_line, ("cut", "a", "", 3))
        self.gives("cut a 0 x y", format_line, ("cut", "a", "x y", 0))
        self.gives("admit b a", format_line, ("admit", "b", "a"))
        self.gives("dismiss a", format_line, ("dismiss", "a"))
        self.gives("undo", format_line, ("undo",))
        self.gives("redo", format_line, ("redo",))

    def test_drawn_lines(self):
        # Whatever is read is written as it was.
        parts = ["write", "cut", "undo", "admit", "dismiss", " ", "a", "b", "3", "0", "x"]
        read = 0
        for line in ["".join(row) for many in range(6) for row in product(parts, repeat=many)][::7]:
            try:
                deed = parse_line(line)
            except InvalidLine:
                continue
            read += 1
            self.assertEqual(format_line(deed), line)
        self.assertGreater(read, 20)
