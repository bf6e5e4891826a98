import random
import unittest

from slowroad.bits import bits_of, frame_of
from slowroad.errors import NoFrame

GREATEST = 2 ** 74 - 1


def some_frames():
    draw = random.Random(27)
    edges = [0, 1, 2, 255, 256, 2 ** 73, 2 ** 73 + 1, GREATEST - 1, GREATEST]
    return edges + [draw.getrandbits(74) for i in range(200)]


class BitsOf(unittest.TestCase):
    def test_length_and_signs(self):
        for frame in some_frames():
            text = bits_of(frame)
            self.assertIs(type(text), str)
            self.assertEqual(len(text), 74)
            self.assertEqual(text.strip("01"), "")

    def test_the_highest_bit_stands_first(self):
        self.assertEqual(bits_of(0), "0" * 74)
        self.assertEqual(bits_of(1), "0" * 73 + "1")
        self.assertEqual(bits_of(6), "0" * 71 + "110")
        self.assertEqual(bits_of(2 ** 73), "1" + "0" * 73)
        self.assertEqual(bits_of(2 ** 73 + 2 ** 71 + 1), "101" + "0" * 70 + "1")
        self.assertEqual(bits_of(GREATEST), "1" * 74)

    def test_each_bit_at_its_place(self):
        for place in range(74):
            self.assertEqual(bits_of(2 ** place), "0" * (73 - place) + "1" + "0" * place)

    def test_many_frames(self):
        for frame in some_frames():
            self.assertEqual(bits_of(frame), format(frame, "074b"))

    def test_what_is_no_frame(self):
        for number in (-1, -2, -(2 ** 74), -(10 ** 60) + 1, 2 ** 74, 2 ** 74 + 1, 2 ** 75, 10 ** 60 - 1):
            with self.assertRaises(NoFrame) as taken:
                bits_of(number)
            self.assertEqual(taken.exception.frame, number)


class FrameOf(unittest.TestCase):
    def refuses(self, text):
        with self.assertRaises(NoFrame) as taken:
            frame_of(text)
        self.assertEqual(taken.exception.frame, text)

    def test_a_text_is_told_back_as_its_frame(self):
        for frame in some_frames():
            self.assertEqual(frame_of(format(frame, "074b")), frame)
            self.assertEqual(frame_of(bits_of(frame)), frame)
            self.assertIs(type(frame_of(bits_of(frame))), int)

    def test_too_short_and_too_long(self):
        for long in (0, 1, 2, 72, 73, 75, 76, 148, 400):
            for sign in "01":
                self.refuses(sign * long)

    def test_another_sign_at_any_place(self):
        text = bits_of(2 ** 73 + 12345678901234567)
        for at in range(74):
            for sign in ("2", "9", " ", "_", "-", "+", "\n", "o", "l", "\u0661", "\u00b9", "%"):
                self.refuses(text[:at] + sign + text[at + 1:])

    def test_what_python_would_read_as_bits_and_is_none(self):
        self.refuses("0b" + "1" * 72)
        self.refuses(" " + "1" * 73)
        self.refuses("1" * 73 + "\n")
        self.refuses("1" * 74 + "\n")
        self.refuses("+" + "1" * 73)
        self.refuses("1_" * 37)


if __name__ == "__main__":
    unittest.main()
