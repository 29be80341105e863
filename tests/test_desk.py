"""The desk: points 1 and 22."""

import inspect
import random
import unittest

from boughpress import desk as module
from boughpress.bests import best
from boughpress.desk import Desk
from boughpress.errors import (
    NoBits, NoFrame, NoName, NoNumber, NoPacket, NoPress, NoRow, NoSign, NoText, NothingTaken, PressError,
)
from boughpress.learner import Learner
from boughpress.packets import wrap
from boughpress.press import press
from boughpress.treenotes import show_tree
from boughpress.weighed import weight
from plainly import as_fraction, as_told, even_text, plain_check

NO_NAMES = ["", "abcdefghi", "A", "aB", "Ab", "a1", "1", "a-b", "a_b", "a.", "abcdefgH", "z~", "~"]
NO_NUMBERS = ["", "00", "01", "007", "1000", "0000", "-1", "+1", "1.0", "1_0", "a", "1a", "a1", "12345", "-0", "0x1", "~"]


def shown(told):
    return f"{told[0]}/{told[1]}"


def taught(*rows):
    desk = Desk()
    for row in rows:
        assert desk.say(row) == "ok", row
    return desk


class DeskCase(unittest.TestCase):
    def assert_refused(self, refusal, desk, row):
        with self.subTest(row=str(row)[:60]):
            with self.assertRaises(PressError) as refused:
                desk.say(row)
            self.assertIs(type(refused.exception), refusal)

    def assert_stands(self, desk, name, frame, text):
        """All that the desk tells of a name is what the frame and the text tell."""
        letters = frame[0]
        whole = as_fraction(weight(frame, text))
        self.assertEqual(desk.say(f"held {name}"), text)
        self.assertEqual(desk.say(f"weight {name}"), shown(weight(frame, text)))
        for letter in letters:
            wanted = as_told(as_fraction(weight(frame, text + letter)) / whole)
            self.assertEqual(desk.say(f"chance {name} {letter}"), shown(wanted))
        self.assertEqual(desk.say(f"tree {name}"), show_tree(frame, best(frame, text)[1]))
        behind = letters[1] + letters[0]
        bits = press(frame, behind, text)
        self.assertEqual(desk.say(f"press {name} {behind}"), bits)
        self.assertEqual(desk.say(f"read {name} 2 {bits}"), behind)
        self.assertEqual(desk.say(f"wrap {name}"), wrap(frame, text))


class RowsTest(DeskCase):
    def test_interface(self):
        self.assertEqual(list(inspect.signature(module.Desk).parameters), [])
        self.assertEqual(list(inspect.signature(module.Desk.say).parameters), ["self", "row"])

    def test_by_hand(self):
        desk = Desk()
        for row, told in (
            ("frame one 1 ab", "ok"), ("held one", ""), ("weight one", "1/1"), ("chance one a", "1/2"), ("tree one", "."),
            ("wrap one", "12ab000EH"), ("learn one b", "ok"), ("held one", "b"), ("weight one", "1/2"),
            ("chance one a", "3/8"), ("chance one b", "5/8"), ("press one b", "1"), ("press one a", "00"),
            ("read one 1 00", "a"), ("learn one a", "ok"), ("tree one", "(..)"), ("weight one", "3/16"),
            ("wrap one", "12ab002qJC"), ("back one 1", "ok"), ("held one", "b"), ("unwrap two 12ab002qJC", "ok"),
            ("held two", "ba"), ("back two 2", "ok"), ("press two ba", "100"), ("read two 2 100", "ba"), ("held two", ""),
            ("back one 0", "ok"), ("held one", "b"),
        ):
            answered = desk.say(row)
            self.assertIs(type(answered), str)
            self.assertEqual(answered, told, row)

    def test_texts_of_many_frames(self):
        for letters, depth in (("ab", 0), ("ba", 3), ("~!a", 2), ("01", 6), ("fedcba", 6), ("\"\\'", 1)):
            for text in ("", letters[1], even_text(1, letters, 12)):
                desk = taught(f"frame x {depth} {letters}", f"learn x {text}")
                self.assert_stands(desk, "x", (letters, depth), text)
                self.assertEqual(desk.say("unwrap y " + desk.say("wrap x")), "ok")
                self.assert_stands(desk, "y", (letters, depth), text)

    def test_learn_takes_all_signs(self):
        desk = taught("frame x 2 ab", "learn x abb", "learn x a", "learn x ")
        self.assert_stands(desk, "x", ("ab", 2), "abba")

    def test_words_without_signs(self):
        desk = taught("frame x 2 ab", "learn x ab")
        self.assertEqual(desk.say("learn x "), "ok")
        self.assertEqual(desk.say("press x "), "")
        self.assertEqual(desk.say("read x 0 "), "")
        self.assert_refused(NoSign, desk, "chance x ")
        self.assert_refused(NoPress, desk, "read x 1 ")
        self.assert_refused(NoNumber, desk, "back x ")
        self.assert_refused(NoFrame, desk, "frame x 2 ")
        self.assert_refused(NoNumber, desk, "frame x  ab")
        self.assert_refused(NoPacket, desk, "unwrap x ")
        for row in ("held ", "weight ", "tree ", "wrap ", "learn  a", "back  1", "read  1 0", "frame  1 ab", "unwrap  AA"):
            self.assert_refused(NoName, desk, row)
        self.assert_stands(desk, "x", ("ab", 2), "ab")

    def test_100_signs(self):
        text = even_text(2, "fedcba", 100)
        desk = taught("frame x 6 fedcba", f"learn x {text[:60]}")
        bits = press(("fedcba", 6), text[60:], text[:60])
        self.assertEqual(desk.say(f"press x {text[60:]}"), bits)
        self.assertEqual(desk.say(f"read x 40 {bits}"), text[60:])
        self.assert_refused(NoPress, desk, f"read x 41 {bits}")
        self.assertEqual(desk.say(f"learn x {text[60:]}"), "ok")
        self.assertEqual(desk.say("weight x"), shown(weight(("fedcba", 6), text)))
        packet = desk.say("wrap x")
        self.assertEqual(packet, wrap(("fedcba", 6), text))
        self.assertEqual(desk.say(f"unwrap y {packet}"), "ok")
        self.assertEqual(desk.say("held y"), text)
        self.assertEqual(desk.say("back y 100"), "ok")
        self.assert_stands(desk, "y", ("fedcba", 6), "")

    def test_names(self):
        desk = Desk()
        names = ["a", "z", "ab", "abcdefgh", "zzzzzzzz", "frame", "held", "ok"]
        for number, name in enumerate(names):
            self.assertEqual(desk.say(f"frame {name} {number % 7} ab"), "ok")
            self.assertEqual(desk.say(f"learn {name} {'ab' * number}"), "ok")
        for number, name in enumerate(names):
            self.assert_stands(desk, name, ("ab", number % 7), "ab" * number)

    def test_a_name_told_anew(self):
        desk = taught("frame x 2 ab", "learn x abba", "frame y 1 cd", "learn y d", "frame x 1 cab")
        self.assert_stands(desk, "x", ("cab", 1), "")
        self.assert_stands(desk, "y", ("cd", 1), "d")
        self.assertEqual(desk.say("unwrap y " + wrap(("ba", 3), "aab")), "ok")
        self.assert_stands(desk, "y", ("ba", 3), "aab")
        self.assert_stands(desk, "x", ("cab", 1), "")

    def test_two_desks_side_by_side(self):
        one = taught("frame x 2 ab", "learn x abba")
        other = Desk()
        self.assert_refused(NoName, other, "held x")
        self.assertEqual(other.say("frame x 1 ba"), "ok")
        self.assertEqual(other.say("learn x b"), "ok")
        self.assert_stands(one, "x", ("ab", 2), "abba")
        self.assert_stands(other, "x", ("ba", 1), "b")

    def test_two_learners_of_one_packet(self):
        packet = wrap(("ab", 2), "abb")
        desk = taught(f"unwrap x {packet}", f"unwrap y {packet}", "learn x a", "back y 1")
        self.assert_stands(desk, "x", ("ab", 2), "abba")
        self.assert_stands(desk, "y", ("ab", 2), "ab")

    def test_against_learners(self):
        source = random.Random(3)
        desk = taught("frame x 2 cab", "frame y 3 ba")
        learners = {"x": Learner(("cab", 2)), "y": Learner(("ba", 3))}
        for _ in range(80):
            name = source.choice("xy")
            learner = learners[name]
            letters = "cab" if name == "x" else "ba"
            if source.random() < 0.6:
                text = even_text(source.random(), letters, source.randrange(4))
                self.assertEqual(desk.say(f"learn {name} {text}"), "ok")
                for sign in text:
                    learner.take(sign)
            else:
                many = source.randrange(len(learner.held()) + 1) % 5
                self.assertEqual(desk.say(f"back {name} {many}"), "ok")
                learner.back(many)
            for each, told in learners.items():
                self.assertEqual(desk.say(f"held {each}"), told.held())
                self.assertEqual(desk.say(f"weight {each}"), shown(told.weighs()))
                self.assertEqual(desk.say(f"chance {each} a"), shown(told.shares()[1]))


class RefusedTest(DeskCase):
    def setUp(self):
        self.desk = taught("frame x 2 ab", "learn x abba")

    def tearDown(self):
        # Whatever was refused has changed nothing.
        self.assert_stands(self.desk, "x", ("ab", 2), "abba")
        self.assert_refused(NoName, self.desk, "held y")

    def assert_each(self, refusal, *rows):
        for row in rows:
            self.assert_refused(refusal, self.desk, row)

    def test_what_is_no_text(self):
        self.assert_each(
            NoRow, None, True, False, 0, 1, 1.5, b"held x", ["held", "x"], ["held x"], ("held", "x"), {}, {"held": "x"},
            {"held x"}, object(), str, ...,
        )

    def test_signs_that_no_text_has(self):
        self.assert_each(
            NoRow, "held x\n", "\nheld x", "held\tx", "learn x a%", "learn x a\n", "learn x \xe4", "held \xe4", "%",
            "back x \u0661", "frame y 1 a%", "unwrap y 12ab000EH\n",
        )

    def test_a_row_that_begins_otherwise(self):
        self.assert_each(
            NoRow, "", " ", "  ", "x", "hold x", "Held x", "HELD x", " held x", "heldx", "held,x", "ok", "count x a",
            "share x a", "frames y 1 ab", "weigh x", "learns x a", "held: x", "say held x",
        )

    def test_other_than_its_words(self):
        self.assert_each(
            NoRow, "frame", "frame y", "frame y 1", "frame y 1 ab c", "frame y 1 ab ", "frame y 1 a b", "frame  y 1 ab",
            "frame y  1 ab", "learn", "learn x", "learn x a b", "learn x a ", "learn  x a", "learn x  a", "back", "back x",
            "back x 1 1", "back x 1 ", "held", "held x x", "held x ", "held  x", "weight", "weight x ", "weight x a",
            "chance", "chance x", "chance x a b", "chance x a ", "chance x  ", "tree", "tree x ", "tree x a", "press",
            "press x", "press x a b", "press x a ", "press x  ", "read", "read x", "read x 1", "read x 1 0 1",
            "read x 1 0 ", "read x 1  ", "wrap", "wrap x ", "wrap x a", "unwrap", "unwrap y", "unwrap y a b",
            "unwrap y 12ab000EH ", "unwrap  y 12ab000EH",
        )

    def test_a_packet_whose_letters_have_a_blank_is_no_word(self):
        self.assert_each(NoRow, "unwrap y " + wrap(("a ", 1), "a a"))

    def test_no_row_ahead_of_all(self):
        self.assert_each(NoRow, "held X Y", "frame X 01", "back X 01 a", "read Q 001 2 2", "learn ABC", "nothing X 01")

    def test_names_that_are_none(self):
        for name in NO_NAMES:
            self.assert_each(
                NoName, f"frame {name} 1 ab", f"learn {name} a", f"back {name} 1", f"held {name}", f"weight {name}",
                f"chance {name} a", f"tree {name}", f"press {name} a", f"read {name} 1 0", f"wrap {name}",
                f"unwrap {name} 12ab000EH",
            )

    def test_names_by_which_nothing_stands(self):
        for name in ("y", "xx", "xa", "abcdefgh"):
            self.assert_each(
                NoName, f"learn {name} a", f"back {name} 1", f"held {name}", f"weight {name}", f"chance {name} a",
                f"tree {name}", f"press {name} a", f"read {name} 1 0", f"wrap {name}",
            )

    def test_numbers_that_are_not_written_so(self):
        for number in NO_NUMBERS:
            self.assert_each(NoNumber, f"frame y {number} ab", f"back x {number}", f"read x {number} 0")
            self.assert_each(NoNumber, f"frame x {number} ab")

    def test_no_name_ahead_of_no_number(self):
        for name in ("Y", "", "abcdefghi"):
            self.assert_each(NoName, f"frame {name} 01 ab", f"back {name} 01", f"read {name} 01 0")
        self.assert_each(NoName, "back y 01", "read y 01 2", "read y -1 0")

    def test_no_number_ahead_of_what_the_stages_refuse(self):
        self.assert_each(NoNumber, "frame y 01 a", "frame y 7a aa", "back x 0999", "read x 01 2", "read x 1000 0")

    def test_no_name_ahead_of_what_the_stages_refuse(self):
        self.assert_each(
            NoName, "frame Y 7 a", "learn y c", "back y 999", "chance y c", "press y c", "read y 1 2", "unwrap Y AA",
            "chance y ", "learn Y c",
        )

    def test_frames_that_are_none(self):
        for depth in (7, 8, 10, 999):
            self.assert_each(NoFrame, f"frame y {depth} ab", f"frame x {depth} ab")
        for letters in ("", "a", "aa", "aba", "abcdefg"):
            self.assert_each(NoFrame, f"frame y 1 {letters}", f"frame x 1 {letters}", f"frame x 9 {letters}")

    def test_signs_that_are_no_letters(self):
        for text in ("c", "abc", "cab", "abcab", "A", "~", "a" * 90 + "c"):
            self.assert_each(NoSign, f"learn x {text}")
        for word in ("c", "ab", "aa", "ba", "", "A", "~", "abba"):
            self.assert_each(NoSign, f"chance x {word}")

    def test_more_taken_back_than_there_are(self):
        self.assert_each(NothingTaken, "back x 5", "back x 6", "back x 10", "back x 999")

    def test_texts_that_are_none(self):
        self.assert_each(NoText, "press x c", "press x abc", "press x A", "press x ~")

    def test_bits_that_are_none(self):
        self.assert_each(NoBits, "read x 1 2", "read x 1 a", "read x 0 x", "read x 2 012", "read x 97 2", "read x 999 2")

    def test_bits_to_which_nothing_is_pressed(self):
        self.assert_each(NoPress, "read x 0 0", "read x 1 " + "0" * 60, "read x 97 0", "read x 999 0", "read x 100 ")

    def test_packets_that_are_none(self):
        for packet in ("", "AA", "12ab000EI", "12ab000HE", "12ab000EH0", "72ab000" + plain_check("72ab000"), "x"):
            self.assert_each(NoPacket, f"unwrap y {packet}", f"unwrap x {packet}")


if __name__ == "__main__":
    unittest.main()
