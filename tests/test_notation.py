"""Point 14: the written form of trees."""

from forkflags.errors import InvalidText, InvalidTree, TooMany
from forkflags.notation import format_tree, parse_tree
from tests.helpers import LETTERS, NO_TREES, Case, all_shapes, comb_tree, every_tree

TWELVE = comb_tree(LETTERS[:12])
LONG = comb_tree([letter * 8 for letter in LETTERS[:12]])


class FormatTest(Case):

    def test_ordinary(self):
        self.gives("a", format_tree, "a")
        self.gives("abcdefgh", format_tree, "abcdefgh")
        self.gives("(b a)", format_tree, ("b", "a"))
        self.gives("((a b) c)", format_tree, (("a", "b"), "c"))
        self.gives("(a (b c))", format_tree, ("a", ("b", "c")))

    def test_twelve_leaves(self):
        self.gives("(a (b (c (d (e (f (g (h (i (j (k l)))))))))))", format_tree, TWELVE)
        self.assertEqual(len(format_tree(LONG)), 129)

    def test_invalid_tree(self):
        for value in NO_TREES:
            self.fails(InvalidTree, {}, format_tree, value)


class ParseTest(Case):

    def test_examples(self):
        self.gives((("a", "b"), "c"), parse_tree, "((a b) c)")
        for text, position in [("(a  b)", 3), ("(a)", 2), ("()", 1), ("a b", 1), ("abcdefghi", 8), ("(a b", 4)]:
            self.fails(InvalidText, {"position": position}, parse_tree, text)

    def test_back_and_forth(self):
        for tree in every_tree(LETTERS[:4]) + all_shapes(["ab", "a", "b", "abcdefgh", "z"]) + [TWELVE, LONG, "a"]:
            self.gives(tree, parse_tree, format_tree(tree))

    def test_text_ends_too_early(self):
        text = "((abcdefgh b) (cd ef))"
        for end in range(len(text)):
            self.fails(InvalidText, {"position": end}, parse_tree, text[:end])

    def test_wrong_characters(self):
        for text, position in [
            ("", 0), (" ", 0), (" a", 0), ("a ", 1), (")", 0), ("(", 1), ("( a b)", 1), ("(a b )", 4), ("(a b))", 5),
            ("(a b)c", 5), ("(a b) ", 5), ("(a b)(", 5), ("(a b c)", 4), ("(ab)", 3), ("(a(b c))", 2), ("(a,b)", 2),
            ("A", 0), ("aB", 1), ("(a B)", 3), ("(a b1)", 4), ("a\n", 1), ("\u00e9", 0), ("a\u00e9", 1), ("(a\tb)", 2),
            ("((a b)c)", 6), ("((a b) c", 8), ("((a b))", 6), ("(a ())", 4), ("a(", 1), ("`", 0), ("{", 0), ("a{", 1),
            ("(a b]", 4), ("[a b]", 0), ("a)", 1), ("(a a)x", 5), ("((a a) a", 8),
        ]:
            self.fails(InvalidText, {"position": position}, parse_tree, text)

    def test_wrong_character_everywhere(self):
        text = "((a bc) (d efghijkl))"
        for position in range(len(text)):
            for wrong in "A1_-,\n":
                changed = text[:position] + wrong + text[position + 1:]
                self.fails(InvalidText, {"position": position}, parse_tree, changed)

    def test_ninth_letter(self):
        self.fails(InvalidText, {"position": 8}, parse_tree, "a" * 9)
        self.fails(InvalidText, {"position": 8}, parse_tree, "a" * 160)
        self.fails(InvalidText, {"position": 9}, parse_tree, "(abcdefghi b)")
        self.fails(InvalidText, {"position": 11}, parse_tree, "(a abcdefghi)")
        self.gives(("abcdefgh", "b"), parse_tree, "(abcdefgh b)")

    def test_length(self):
        names = [first + second for first in "abcdefghi" for second in "abcdefghi"]
        for text in ["(" * 160, "(a " * 53 + "(", "a" * 161, "(" * 161, "(a b)" + " " * 156, "", "a" * 500]:
            wanted = (TooMany, {"most": 160}) if len(text) > 160 else (InvalidText, {"position": len(text)})
            self.fails(*wanted, parse_tree, text)
        self.fails(InvalidText, {"position": 5}, parse_tree, "(a b)" + " " * 155)
        whole = tree_text(names[:32] + ["abc"])
        self.assertEqual(len(whole), 163)
        self.fails(TooMany, {"most": 160}, parse_tree, whole)
        whole = tree_text(names[:31] + ["abcde"])
        self.assertEqual(len(whole), 160)
        self.fails(InvalidTree, {}, parse_tree, whole)
        whole = tree_text(names[:31] + ["abcdef"])
        self.assertEqual(len(whole), 161)
        self.fails(TooMany, {"most": 160}, parse_tree, whole)

    def test_no_tree(self):
        for text in ["(a a)", "((a b) (c a))", "(abc abc)", tree_text(LETTERS[:13]), tree_text(["a"] * 13)]:
            self.fails(InvalidTree, {}, parse_tree, text)
        self.gives(TWELVE, parse_tree, tree_text(LETTERS[:12]))


def tree_text(names):
    """Write the highest tree of these leaves, without the program."""
    return "".join([f"({name} " for name in names[:-1]]) + names[-1] + ")" * (len(names) - 1)
