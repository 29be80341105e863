"""Packets: points 1, 4 and 21."""

import inspect
import random
import unittest

from boughpress import packets as module
from boughpress.errors import NoPacket, NoText, PressError
from boughpress.frames import make_frame
from boughpress.packets import unwrap, wrap
from boughpress.press import press
from plainly import (
    FRAMES, drawn_texts, even_text, plain_check, plain_groups, plain_packet, texts_of, texts_to,
)

SIGNS = [chr(number) for number in range(32, 127) if number != 37]
GROUPS = "abcdefghijklmnopqrstuvwxyz234567"


def with_check(body):
    return body + plain_check(body)


class PacketCase(unittest.TestCase):
    def assert_refused(self, packet):
        with self.subTest(packet=packet[:80]):
            with self.assertRaises(PressError) as refused:
                unwrap(packet)
            self.assertIs(type(refused.exception), NoPacket)

    def assert_there_and_back(self, frame, text):
        packet = wrap(frame, text)
        self.assertIs(type(packet), str)
        self.assertEqual(packet, plain_packet(frame, len(text), plain_groups(press(frame, text))))
        told = unwrap(packet)
        self.assertIs(type(told), tuple)
        self.assertIs(type(told[0]), tuple)
        self.assertEqual(told, (frame, text))
        return packet


class ThereAndBackTest(PacketCase):
    def test_interface(self):
        self.assertEqual(list(inspect.signature(module.wrap).parameters), ["frame", "text"])
        self.assertEqual(list(inspect.signature(module.unwrap).parameters), ["packet"])

    def test_by_hand(self):
        # 49 + 2 * 50 + 3 * 97 + 4 * 98 + 5 * 48 + 6 * 48 + 7 * 48 = 1696, and 1696 - 17 * 97 = 47.
        self.assertEqual(wrap(make_frame("ab", 1), ""), "12ab000EH")
        # The bits of ba are 100, filled up to 10000, which is 16, a q: 1696 + 2 * 7 + 8 * 113 = 2614, 92 left.
        self.assertEqual(wrap(make_frame("ab", 1), "ba"), "12ab002qJC")
        self.assertEqual(unwrap("12ab000EH"), (("ab", 1), ""))
        self.assertEqual(unwrap("12ab002qJC"), (("ab", 1), "ba"))

    def test_every_depth_and_number_of_letters(self):
        for depth in range(7):
            for many in range(2, 7):
                frame = make_frame("fab~ 9"[:many], depth)
                for text in ["", *drawn_texts(depth, frame[0], (1, 6, 25))]:
                    self.assert_there_and_back(frame, text)

    def test_every_frame(self):
        for frame in FRAMES:
            for text in drawn_texts(1, frame[0], (2, 33)):
                self.assert_there_and_back(frame, text)

    def test_all_texts_of_a_few_signs(self):
        for frame, most in ((("ba", 2), 5), (("cab", 1), 3), (("fedcba", 0), 2)):
            for text in texts_to(frame[0], most):
                self.assert_there_and_back(frame, text)

    def test_letters_that_look_like_figures_and_groups(self):
        for letters in ("01", "10", "26", "a2", "AB", "70a", "000"[:1] + "123", "345267"):
            for text in drawn_texts(2, letters, (0, 1, 9)):
                self.assert_there_and_back(make_frame(letters, 2), text)

    def test_100_signs(self):
        for frame in (("ab", 6), ("fedcba", 6), ("abc", 0)):
            for text in (even_text(3, frame[0], 100), frame[0][-1] * 100, frame[0][0] * 100):
                packet = self.assert_there_and_back(frame, text)
                self.assertIn("100", packet)
                self.assertLess(len(packet), 97)

    def test_a_strange_sign(self):
        for text in ("c", "abc", "A", "a%", "a\n", "2"):
            with self.assertRaises(PressError) as refused:
                wrap(make_frame("ab", 2), text)
            self.assertIs(type(refused.exception), NoText)


class SpoiltTest(PacketCase):
    def packets(self):
        for frame in (("ab", 1), ("~ a", 3), ("10", 0), ("fedcba", 6)):
            for text in drawn_texts(4, frame[0], (0, 3, 20)):
                yield wrap(frame, text)
        yield wrap(("abcdef", 6), even_text(5, "abcdef", 100))

    def test_each_sign_exchanged(self):
        for packet in self.packets():
            for at in range(len(packet)):
                for sign in SIGNS:
                    if sign != packet[at]:
                        self.assert_refused(packet[:at] + sign + packet[at + 1:])

    def test_a_sign_exchanged_for_one_that_is_none(self):
        for packet in self.packets():
            for at in range(len(packet)):
                for sign in ("%", "\n", "\t", "\0", "\xe4", "\u0661", "\xb2", chr(ord(packet[at]) + 97)):
                    self.assert_refused(packet[:at] + sign + packet[at + 1:])

    def test_unlike_neighbours_exchanged(self):
        for packet in self.packets():
            for at in range(len(packet) - 1):
                if packet[at] != packet[at + 1]:
                    self.assert_refused(packet[:at] + packet[at + 1] + packet[at] + packet[at + 2:])

    def test_cut(self):
        for packet in self.packets():
            for at in range(len(packet)):
                self.assert_reads_back_or_refused(packet[:at])
                self.assert_reads_back_or_refused(packet[at + 1:])
                self.assert_reads_back_or_refused(packet[:at] + packet[at + 1:])

    def test_with_signs_put_in(self):
        for packet in self.packets():
            for at in range(len(packet) + 1):
                for sign in "0a Az7~":
                    self.assert_reads_back_or_refused(packet[:at] + sign + packet[at:])

    def assert_reads_back_or_refused(self, packet):
        """A text that a chance makes a packet is one of the frame and the text that it tells."""
        try:
            frame, text = unwrap(packet)
        except NoPacket:
            return
        self.assertEqual(frame, make_frame(*frame))
        self.assertLessEqual(len(text), 100)
        self.assertEqual(wrap(frame, text), packet)

    def test_what_is_far_from_a_packet(self):
        for packet in (
            "", "A", "AA", "a", "0", "00", "EH", " ", "12ab", "12ab000", "ok", "%", "\n", "\u0661", "A" * 4000, "0" * 4000,
            "12ab000eh", "12AB000EH", " 12ab000EH", "12ab000EH ", "12ab000EH\n", "12ab000EH12ab000EH",
        ):
            self.assert_refused(packet)

    def test_drawn_texts(self):
        source = random.Random(6)
        for _ in range(400):
            size = source.randrange(16)
            body = "".join(source.choice("0123ab2q") for _ in range(size))
            self.assert_reads_back_or_refused(body)
            self.assert_reads_back_or_refused(with_check(body))


class RightCheckTest(PacketCase):
    """The check is right, but what it is over tells no frame or no text."""

    def test_a_wrong_check_alone(self):
        for rest in range(100):
            check = "ABCDEFGHIJ"[rest // 10] + "ABCDEFGHIJ"[rest % 10]
            if check != "EH":
                self.assert_refused("12ab000" + check)

    def test_a_depth_beyond_6(self):
        groups = plain_groups(press(("ab", 6), "ba"))
        self.assertEqual(unwrap(plain_packet(("ab", 6), 2, groups)), (("ab", 6), "ba"))
        for depth in (7, 8, 9):
            self.assert_refused(plain_packet(("ab", depth), 2, groups))
            self.assert_refused(plain_packet(("ab", depth), 0, ""))

    def test_a_letter_twice(self):
        for letters in ("aa", "aba", "abb", "abcdea"):
            self.assert_refused(plain_packet((letters, 1), 0, ""))

    def test_too_few_and_too_many_letters(self):
        for letters in ("", "a", "abcdefg", "abcdefgh", "abcdefghi"):
            self.assert_refused(plain_packet((letters, 1), 0, ""))

    def test_letters_that_are_no_signs(self):
        for letters in ("a%", "a\n", "\tb", "a\xe4", "a\x7f"):
            self.assert_refused(plain_packet((letters, 1), 0, ""))

    def test_more_than_100_signs(self):
        for many in (101, 102, 150, 999):
            for text in ("b" * many, even_text(7, "ab", many)):
                self.assert_refused(plain_packet(("ab", 0), many, plain_groups(press(("ab", 0), text))))

    def test_another_number_of_signs(self):
        groups = plain_groups(press(("ab", 1), "babba"))
        for many in range(0, 101):
            self.assert_told_or_refused(("ab", 1), many, groups)

    def assert_told_or_refused(self, frame, many, groups):
        packet = plain_packet(frame, many, groups)
        try:
            told = unwrap(packet)
        except NoPacket:
            return
        self.assertEqual(told[0], frame)
        self.assertEqual(len(told[1]), many)
        self.assertEqual(plain_groups(press(*told)), groups)

    def test_all_small_groups(self):
        for frame, size in ((("ab", 1), 0), (("ab", 1), 2), (("ba", 2), 4), (("cab", 1), 2)):
            told = {plain_groups(press(frame, text)): text for text in texts_of(frame[0], size)}
            # Of bits that no one begins another, no two are filled up to the same groups.
            self.assertEqual(len(told), len(frame[0]) ** size)
            for groups in ["", *GROUPS, *[one + other for one in GROUPS for other in GROUPS]]:
                packet = plain_packet(frame, size, groups)
                if groups in told:
                    self.assertEqual(unwrap(packet), (frame, told[groups]))
                else:
                    self.assert_refused(packet)

    def test_filling_that_no_text_has(self):
        frame = make_frame("ab", 1)
        # The bits of ba are 100, so the group is 10000.
        for filled in ("10001", "10010", "10011"):
            self.assert_refused(plain_packet(frame, 2, GROUPS[int(filled, 2)]))

    def test_groups_too_many_and_too_few(self):
        frame = make_frame("abc", 2)
        text = even_text(8, "abc", 20)
        groups = plain_groups(press(frame, text))
        self.assertEqual(unwrap(plain_packet(frame, 20, groups)), (frame, text))
        self.assert_refused(plain_packet(frame, 20, groups + "a"))
        self.assert_refused(plain_packet(frame, 20, groups + "a" * 3900))
        self.assert_refused(plain_packet(frame, 20, groups + "7"))
        self.assert_refused(plain_packet(frame, 20, ""))
        self.assert_refused(plain_packet(frame, 0, "a"))

    def test_groups_of_other_signs(self):
        for sign in ("0", "1", "8", "9", "A", " ", "~", "%", "\n"):
            self.assert_refused(plain_packet(("ab", 1), 2, sign))
            self.assert_refused(plain_packet(("ab", 1), 2, "q" + sign))

    def test_figures_that_are_none(self):
        for body in ("x2ab000", "1xab000", "12ab00x", "12abx00", "12ab0 0", "12ab+01", "12ab-01", "12ab00", "12ab", "12a", "12", "1"):
            self.assert_refused(with_check(body))
        for figure in ("\u0661", "\xb2", "\uff11"):
            self.assert_refused(with_check(figure + "2ab000"))
            self.assert_refused(with_check("1" + figure + "ab000"))
            self.assert_refused(with_check("12ab00" + figure))


if __name__ == "__main__":
    unittest.main()
