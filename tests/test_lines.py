"""The parts of lines: records (point 75) and numbers (points 79 and 88)."""

from forkflags.lines import is_record, read_number
from tests.helpers import Case

RECORDS = ["", " ", "~", "a", "hello", "  two  spaces  ", "x" * 200, " " * 200, ">", "".join(map(chr, range(32, 127)))]
NO_RECORDS = [
    "x" * 201, " " * 10000, "\n", "a\n", "\na", "\t", "\x1f", "\x7f", "a\x00b", "\u00e9", "\u00a0", "\u2028", "\ud800",
    "x" * 199 + "\n", None, 0, 5, True, b"a", b"", [], ["a"], ("a",), {}, {"a": 1},
]
# Texts that are no numbers in decimal digits without leading zeros.
NO_NUMBERS = [
    "", " ", "-1", "+1", "00", "01", "007", "000", "1 ", " 1", "1.0", "1_0", "x", "0x1", "1e1", "\u0661", "\u00b2", "\uff11",
    "1\n", "9" * 5000, "None", "True",
]


class LinesTest(Case):

    def test_records(self):
        for text in RECORDS:
            self.gives(True, is_record, text)
        for text in NO_RECORDS:
            self.gives(False, is_record, text)

    def test_numbers(self):
        for count in [1, 2, 10, 11, 240, 401]:
            for number in range(count):
                self.gives(number, read_number, str(number), count)
            for text in [*NO_NUMBERS, str(count), str(count + 1), str(10 * count), "0" + str(count - 1)]:
                self.gives(None, read_number, text, count)
