"""Learners: points 1 and 16."""

import inspect
import random
import unittest
from fractions import Fraction

from boughpress import learner as module
from boughpress.counts import counts, knots
from boughpress.errors import NoKnot, NoSign, NothingTaken, PressError
from boughpress.frames import make_frame
from boughpress.learner import Learner
from boughpress.weighed import weight
from plainly import FRAMES, as_fraction, as_told, even_text, plain_weight, texts_to

NO_SIGNS = [
    "c", "", "ab", "aa", "ba", "A", " ", "%", "\n", "\t", "\xe4", "0", None, True, False, 0, 1, -1, 1.5, b"a", ["a"], [],
    ("a",), (), {}, {"a": 1}, {"a"}, object(), str, ..., float("nan"),
]


def taught(frame, text):
    told = Learner(frame)
    for sign in text:
        told.take(sign)
    return told


class LearnerCase(unittest.TestCase):
    def assert_tells(self, learner, frame, text):
        """What the learner tells is what its text tells."""
        self.assertEqual(learner.held(), text)
        self.assertEqual(learner.weighs(), weight(frame, text))
        whole = as_fraction(weight(frame, text))
        wanted = [as_told(as_fraction(weight(frame, text + letter)) / whole) for letter in frame[0]]
        self.assertEqual(learner.shares(), wanted)
        for knot in ["", *knots(frame, text)[:6], frame[0][-1] * frame[1]]:
            self.assertEqual(learner.counted(knot), counts(frame, text, knot))

    def assert_refused(self, refusal, call, *arguments):
        with self.assertRaises(PressError) as refused:
            call(*arguments)
        self.assertIs(type(refused.exception), refusal)


class LearnerTest(LearnerCase):
    def test_interface(self):
        self.assertEqual(list(inspect.signature(module.Learner).parameters), ["frame"])
        for name, arguments in (
            ("take", ["sign"]), ("back", ["many"]), ("held", []), ("weighs", []), ("shares", []), ("counted", ["knot"]),
        ):
            self.assertEqual(list(inspect.signature(getattr(module.Learner, name)).parameters), ["self", *arguments])

    def test_a_new_one_has_no_text(self):
        for frame in FRAMES:
            learner = Learner(frame)
            self.assertEqual(learner.held(), "")
            self.assertEqual(learner.weighs(), (1, 1))
            self.assertEqual(learner.shares(), [(1, len(frame[0]))] * len(frame[0]))
            self.assertEqual(learner.counted(""), [0] * len(frame[0]))

    def test_by_hand(self):
        learner = Learner(make_frame("ab", 1))
        self.assertIsNone(learner.take("b"))
        self.assertEqual(learner.held(), "b")
        self.assertEqual(learner.weighs(), (1, 2))
        # Of bb the leaf is worth 3/8 and the branching 1/4; of ba they are worth 1/8 and 1/4.
        self.assertEqual(learner.shares(), [(3, 8), (5, 8)])
        self.assertIsNone(learner.take("a"))
        self.assertEqual(learner.weighs(), (3, 16))
        self.assertEqual(learner.counted("b"), [1, 0])
        self.assertIsNone(learner.back(1))
        self.assertEqual((learner.held(), learner.weighs()), ("b", (1, 2)))
        self.assertEqual(learner.counted("b"), [0, 0])

    def test_all_small_texts(self):
        for frame, most in ((("ba", 2), 5), (("ab", 0), 4), (("cab", 1), 3)):
            for text in texts_to(frame[0], most):
                self.assert_tells(taught(frame, text), frame, text)

    def test_deeds_in_many_orders(self):
        for number, frame in enumerate(FRAMES):
            source = random.Random(number)
            learner = Learner(frame)
            text = ""
            for _ in range(40):
                deed = source.random()
                if deed < 0.55:
                    sign = source.choice(frame[0])
                    self.assertIsNone(learner.take(sign))
                    text += sign
                elif deed < 0.8:
                    many = source.randrange(len(text) + 1) if deed < 0.6 else min(len(text), source.randrange(3))
                    self.assertIsNone(learner.back(many))
                    text = text[:len(text) - many]
                elif deed < 0.9:
                    self.assert_refused(NothingTaken, learner.back, len(text) + 1 + source.randrange(3))
                else:
                    self.assert_refused(NoSign, learner.take, source.choice(["%", "", frame[0], "?", None, 7]))
                self.assert_tells(learner, frame, text)

    def test_weights_and_shares_against_the_words_of_the_points(self):
        for frame in FRAMES:
            text = even_text(1, frame[0], 12)
            learner = taught(frame, text)
            whole = plain_weight(frame, text)
            self.assertEqual(as_fraction(learner.weighs()), whole)
            for letter, told in zip(frame[0], learner.shares()):
                self.assertEqual(as_fraction(told), plain_weight(frame, text + letter) / whole)

    def test_the_shares_come_to_1(self):
        for frame in FRAMES:
            learner = Learner(frame)
            for sign in even_text(2, frame[0], 25):
                told = learner.shares()
                self.assertIs(type(told), list)
                self.assertEqual(sum(map(as_fraction, told)), 1)
                learner.take(sign)

    def test_the_weight_is_the_product_of_the_shares(self):
        for frame in FRAMES:
            learner = Learner(frame)
            gathered = Fraction(1)
            for sign in even_text(3, frame[0], 20):
                gathered *= as_fraction(learner.shares()[frame[0].index(sign)])
                learner.take(sign)
                self.assertEqual(as_fraction(learner.weighs()), gathered)

    def test_taken_back_to_nothing(self):
        for frame in FRAMES:
            learner = taught(frame, even_text(4, frame[0], 20))
            learner.back(20)
            self.assert_tells(learner, frame, "")
            learner.back(0)
            self.assert_refused(NothingTaken, learner.back, 1)
            learner.take(frame[0][1])
            self.assert_tells(learner, frame, frame[0][1])

    def test_nought_taken_back(self):
        frame = make_frame("ab", 2)
        learner = taught(frame, "abba")
        self.assertIsNone(learner.back(0))
        self.assert_tells(learner, frame, "abba")

    def test_more_taken_back_than_there_are(self):
        frame = make_frame("ab", 2)
        for text in ("", "a", "abba"):
            learner = taught(frame, text)
            for more in (1, 2, 1000, 10 ** 3999):
                self.assert_refused(NothingTaken, learner.back, len(text) + more)
                self.assert_tells(learner, frame, text)

    def test_what_is_no_letter(self):
        for depth in (0, 2):
            frame = make_frame("ab", depth)
            for text in ("", "abba"):
                learner = taught(frame, text)
                for thing in NO_SIGNS:
                    self.assert_refused(NoSign, learner.take, thing)
                self.assert_tells(learner, frame, text)

    def test_counts_of_knots(self):
        for frame in FRAMES:
            text = even_text(5, frame[0], 15)
            learner = taught(frame, text + frame[0][0] * 3)
            learner.back(3)
            for knot in knots(frame, text) + texts_to(frame[0], min(frame[1], 2)):
                told = learner.counted(knot)
                self.assertIs(type(told), list)
                self.assertEqual(told, counts(frame, text, knot))

    def test_a_knot_that_is_none(self):
        frame = make_frame("ab", 2)
        for text in ("", "abba"):
            learner = taught(frame, text)
            for knot in ("aaa", "abab", "c", "ac", "A", " ", "%", "\n", "a" * 4000):
                self.assert_refused(NoKnot, learner.counted, knot)
            self.assert_tells(learner, frame, text)
        self.assert_refused(NoKnot, Learner(make_frame("ab", 0)).counted, "a")

    def test_two_learners_side_by_side(self):
        frame = make_frame("ab", 2)
        one = Learner(frame)
        other = Learner(frame)
        third = Learner(make_frame("bac", 1))
        for sign in "abbab":
            one.take(sign)
        self.assert_tells(other, frame, "")
        for sign in "bb":
            other.take(sign)
            third.take("c")
        one.back(2)
        self.assert_tells(one, frame, "abb")
        self.assert_tells(other, frame, "bb")
        self.assert_tells(third, ("bac", 1), "cc")
        other.back(2)
        self.assert_tells(one, frame, "abb")

    def test_told_lists_are_the_askers_own(self):
        frame = make_frame("ab", 2)
        learner = taught(frame, "abba")
        for knot in ("", "b", "bb", "ab"):
            first = learner.counted(knot)
            self.assertIsNot(first, learner.counted(knot))
            first[0] += 5
            first.append(3)
        shares = learner.shares()
        self.assertIsNot(shares, learner.shares())
        shares.clear()
        self.assert_tells(learner, frame, "abba")
        learner.take("b")
        learner.counted("")[1] = 99
        learner.back(2)
        self.assert_tells(learner, frame, "abb")

    def test_a_text_of_100_signs(self):
        for frame in (("ab", 6), ("fedcba", 6)):
            text = even_text(6, frame[0], 100)
            learner = taught(frame, text)
            self.assert_tells(learner, frame, text)
            self.assertEqual(sum(map(as_fraction, learner.shares())), 1)
            learner.back(60)
            self.assert_tells(learner, frame, text[:40])
            for sign in text[40:]:
                learner.take(sign)
            self.assert_tells(learner, frame, text)
            learner.back(100)
            self.assert_tells(learner, frame, "")


if __name__ == "__main__":
    unittest.main()
