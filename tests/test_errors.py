"""The errors of the interface."""

from forkflags import errors
from tests.helpers import Case

ATTRIBUTES = {
    "InvalidName": "name", "InvalidText": "position", "InvalidBudget": "writer", "SumTooGreat": "total",
    "UnknownWriter": "writer", "DuplicateWriter": "writer", "UnknownFork": "fork", "UnknownHall": "hall",
    "TooManyTurns": "most", "InvalidEvent": "index", "TooMany": "most", "InvalidSizes": "writer", "NoRight": "writer",
    "NoStory": "left", "InvalidImage": "line", "StillTold": "writer", "NoFlagLeft": "writer",
}
PLAIN = [
    "InvalidShare", "InvalidTree", "InvalidState", "LastWriter", "UnlikePlans", "InvalidTown", "InvalidTable",
    "InvalidRecord", "NothingToUndo", "NothingToRedo", "InvalidLine",
]


class ErrorsTest(Case):

    def test_base(self):
        self.assertEqual(errors.ForkError.__bases__, (ValueError,))
        self.assertIsInstance(errors.ForkError("any message"), ValueError)

    def test_list_is_whole(self):
        found = [name for name, value in vars(errors).items() if isinstance(value, type)]
        self.assertEqual(sorted(found), sorted(["ForkError", *ATTRIBUTES, *PLAIN]))
        self.assertEqual(len(found), 29)

    def test_each_derives_directly(self):
        for name in [*ATTRIBUTES, *PLAIN]:
            self.assertEqual(getattr(errors, name).__bases__, (errors.ForkError,), name)

    def test_attributes(self):
        for name, attribute in ATTRIBUTES.items():
            error = getattr(errors, name)
            for value in ["x", 0, 7, None, ["x"], ("x", 1)]:
                self.assertEqual(vars(error(value)), {attribute: value}, name)
                self.assertEqual(vars(error(**{attribute: value})), {attribute: value}, name)
                with self.assertRaises(errors.ForkError) as caught:
                    raise error(value)
                self.assertEqual(getattr(caught.exception, attribute), value)

    def test_attributes_must_be_given(self):
        for name in ATTRIBUTES:
            with self.assertRaises(TypeError):
                getattr(errors, name)()

    def test_without_attributes(self):
        for name in PLAIN:
            error = getattr(errors, name)
            self.assertEqual(vars(error()), {})
            self.assertEqual(vars(error("any message")), {})
            self.assertEqual(str(error("any message")), "any message")
