"""Trees written and read: points 1, 9 and 12."""

import inspect
import random
import unittest

from boughpress import treenotes as module
from boughpress.errors import NoTree, PressError
from boughpress.frames import make_frame
from boughpress.treenotes import read_tree, show_tree
from plainly import FRAMES, all_trees, drawn_trees, full_tree, plain_written

SMALL = [("ab", 0), ("ab", 1), ("ba", 2), ("ab", 3), ("cab", 0), ("cab", 1), ("bca", 2), ("fedcba", 1)]
SIGNS = ".() ,[]Na0\n%"


def spoilt(text):
    """The text with a sign left out, put in or exchanged at each place."""
    for at in range(len(text) + 1):
        for sign in SIGNS:
            yield text[:at] + sign + text[at:]
            yield text[:at] + sign + text[at + 1:]
        yield text[:at] + text[at + 1:]


class TreenotesCase(unittest.TestCase):
    def assert_refused(self, call, frame, thing):
        with self.assertRaises(PressError) as refused:
            call(frame, thing)
        self.assertIs(type(refused.exception), NoTree)


class ShowTest(TreenotesCase):
    def test_interface(self):
        self.assertEqual(list(inspect.signature(module.show_tree).parameters), ["frame", "tree"])
        self.assertEqual(list(inspect.signature(module.read_tree).parameters), ["frame", "text"])

    def test_by_hand(self):
        frame = make_frame("ab", 2)
        self.assertEqual(show_tree(frame, None), ".")
        self.assertEqual(show_tree(frame, (None, None)), "(..)")
        self.assertEqual(show_tree(frame, ((None, None), None)), "((..).)")
        self.assertEqual(show_tree(frame, (None, (None, None))), "(.(..))")
        self.assertEqual(show_tree(make_frame("cab", 1), (None, None, None)), "(...)")
        self.assertEqual(show_tree(make_frame("ab", 0), None), ".")

    def test_what_is_no_tree(self):
        frame = make_frame("ab", 2)
        deep = None
        for _ in range(20000):
            deep = (deep, None)
        for thing in (
            deep, (None,), (None, None, None), (((None, None), None), None), [None, None], (None, [None, None]), True,
            False, 0, 1, "", ".", "(..)", {}, {0: None}, (), (None, True), (None, "."), object(), 1.5, b".",
        ):
            self.assert_refused(show_tree, frame, thing)
        self.assert_refused(show_tree, make_frame("ab", 0), (None, None))


class ReadTest(TreenotesCase):
    def test_by_hand(self):
        frame = make_frame("ab", 2)
        self.assertIs(read_tree(frame, "."), None)
        self.assertEqual(read_tree(frame, "(..)"), (None, None))
        self.assertEqual(read_tree(frame, "((..).)"), ((None, None), None))
        self.assertEqual(read_tree(frame, "(.(..))"), (None, (None, None)))
        self.assertEqual(read_tree(make_frame("cab", 1), "(...)"), (None, None, None))

    def test_all_trees_of_small_frames_there_and_back(self):
        for frame in SMALL:
            for tree in all_trees(frame):
                text = show_tree(frame, tree)
                self.assertIs(type(text), str)
                self.assertEqual(text, plain_written(tree))
                self.assertEqual(read_tree(frame, text), tree)

    def test_drawn_trees_there_and_back(self):
        for frame in FRAMES:
            for tree in [*drawn_trees(1, frame, 20), full_tree(frame, min(frame[1], 3))]:
                self.assertEqual(show_tree(frame, tree), plain_written(tree))
                self.assertEqual(read_tree(frame, plain_written(tree)), tree)

    def test_spoilt_texts_are_read_as_another_tree_or_refused(self):
        for frame in (("ab", 0), ("ab", 1), ("ba", 2), ("cab", 1), ("abc", 2)):
            written = {plain_written(tree): tree for tree in all_trees(frame)}
            for text in list(written)[:40]:
                for other in spoilt(text):
                    if other in written:
                        self.assertEqual(read_tree(frame, other), written[other])
                    else:
                        self.assert_refused(read_tree, frame, other)

    def test_texts_of_points_and_brackets(self):
        frame = make_frame("ab", 2)
        written = {plain_written(tree) for tree in all_trees(frame)}
        source = random.Random(2)
        texts = ["".join(source.choice("(.)") for _ in range(source.randrange(11))) for _ in range(4000)]
        for text in texts:
            if text not in written:
                self.assert_refused(read_tree, frame, text)

    def test_texts_that_write_no_tree(self):
        for frame in FRAMES:
            for text in (
                "", " ", "..", "()", "(", ")", ")(", "(.", ".)", "(.)", ". ", " .", "(. .)", "(..) ", "\n.", ".\n", "None",
                "(.......)", "[..]", "%", "((((((((", "))))))))", ".." * 2000,
            ):
                self.assert_refused(read_tree, frame, text)

    def test_brackets_thousands_deep(self):
        for letters in ("ab", "abcdef"):
            rest = "." * (len(letters) - 1)
            for depth in (0, 3, 6):
                frame = make_frame(letters, depth)
                for many in (7, 400, 2000, 20000):
                    self.assert_refused(read_tree, frame, "(" * many)
                    self.assert_refused(read_tree, frame, "(" * many + ")" * many)
                    self.assert_refused(read_tree, frame, "(" * many + "." + (rest + ")") * many)
                    self.assert_refused(read_tree, frame, ("(" + rest) * many + "." + ")" * many)

    def test_a_tree_of_another_frame(self):
        self.assert_refused(read_tree, make_frame("ab", 2), "(...)")
        self.assert_refused(read_tree, make_frame("abc", 2), "(..)")
        self.assert_refused(read_tree, make_frame("ab", 0), "(..)")
        self.assert_refused(read_tree, make_frame("ab", 1), "((..).)")
        self.assert_refused(read_tree, make_frame("ab", 1), "(.(..))")
        self.assertEqual(read_tree(make_frame("xy", 2), "(.(..))"), (None, (None, None)))

    def test_what_is_no_text(self):
        frame = make_frame("ab", 2)
        for thing in (
            None, True, False, 0, 1, 1.5, b".", b"(..)", [], ["."], ["(", ".", ".", ")"], (), (None, None), (".",), {},
            {".": 1}, {"."}, object(), str, ...,
        ):
            self.assert_refused(read_tree, frame, thing)

    def test_a_list_that_is_handed_in_stays(self):
        signs = ["."]
        self.assert_refused(read_tree, make_frame("ab", 2), signs)
        self.assertEqual(signs, ["."])


if __name__ == "__main__":
    unittest.main()
