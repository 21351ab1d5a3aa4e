"""Point 9: names."""

from forkflags.errors import DuplicateWriter, InvalidName
from forkflags.naming import check_names, is_name
from tests.helpers import LETTERS, NO_NAMES, Case, nested


class NamingTest(Case):

    def test_names(self):
        for name in [*LETTERS, "az", "za", "abcdefgh", "zzzzzzzz", "name"]:
            self.gives(True, is_name, name)
        for many in range(1, 9):
            self.gives(True, is_name, "z" * many)
        for many in [0, 9, 10, 1000]:
            self.gives(False, is_name, "z" * many)

    def test_no_names(self):
        for value in [*NO_NAMES, nested([], 100, lambda part: [part]), nested((), 100, lambda part: (part, part))]:
            self.gives(False, is_name, value)
        for letter in [chr(code) for code in range(300) if not 97 <= code <= 122]:
            self.gives(False, is_name, letter)
            self.gives(False, is_name, "a" + letter)

    def test_right_lists(self):
        for names in [[], ["a"], ["b", "a"], ["a", "aa", "aaa"], LETTERS]:
            self.assertIsNone(check_names(names))

    def test_no_name_in_the_list(self):
        for value in NO_NAMES:
            self.fails(InvalidName, {"name": value}, check_names, [value])
            self.fails(InvalidName, {"name": value}, check_names, ["a", "b", value, "b"])

    def test_name_twice(self):
        self.fails(DuplicateWriter, {"writer": "a"}, check_names, ["a", "a"])
        self.fails(DuplicateWriter, {"writer": "b"}, check_names, ["a", "b", "c", "b", "a"])

    def test_first_wrong_entry_counts(self):
        self.fails(DuplicateWriter, {"writer": "a"}, check_names, ["a", "b", "a", "A", None])
        self.fails(InvalidName, {"name": "A"}, check_names, ["a", "A", "a", "A"])
        self.fails(InvalidName, {"name": "B"}, check_names, ["a", "B", "A"])
        self.fails(InvalidName, {"name": ["a"]}, check_names, [["a"], ["a"]])
