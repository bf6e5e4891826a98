import unittest

from slowroad.errors import NoFrame, NoPiece, Spoilt
from slowroad.pieces import is_piece, read, remainder, written

KINDS = ("bare", "signs", "begin", "end", "ask")
ALPHABET = "".join(chr(code) for code in range(32, 127) if code != 37)
ALL_HELD = tuple(range(1, 16))
PIECES = (
    ("bare", 0, 0, 0, (), ""),
    ("bare", 0, 63, 16, ALL_HELD, ""),
    ("ask", 0, 5, 0, (), ""),
    ("ask", 0, 63, 16, (1, 15), ""),
    ("begin", 0, 0, 0, (), ""),
    ("begin", 63, 63, 16, ALL_HELD, ""),
    ("end", 1, 62, 15, (15,), ""),
    ("end", 63, 0, 1, (1,), ""),
    ("signs", 0, 0, 0, (), " "),
    ("signs", 0, 0, 0, (), "    "),
    ("signs", 63, 63, 16, ALL_HELD, "~~~~"),
    ("signs", 33, 18, 9, (2, 3, 8), "$"),
    ("signs", 7, 40, 12, (4, 14), "&a"),
    ("signs", 21, 42, 3, (1, 2), "\"\\'"),
    ("signs", 10, 1, 16, (5, 9, 13), "Ab9 "),
)


def long_division(bits):
    # By hand on a text, so that it has no step in common with the program's.
    row = [int(bit) for bit in bits]
    for at in range(len(row) - 8):
        if row[at] == 1:
            for step, bit in enumerate((1, 0, 0, 0, 0, 0, 1, 1, 1)):
                row[at + step] ^= bit
    return int("".join(str(bit) for bit in row[-8:]), 2)


def parts_of(frame):
    bits = format(frame, "074b")
    told = []
    for width in (3, 6, 6, 5, 15, 3, 7, 7, 7, 7, 8):
        told.append(int(bits[:width], 2))
        bits = bits[width:]
    return told


def frame_of_parts(parts):
    body = ""
    for part, width in zip(parts, (3, 6, 6, 5, 15, 3, 7, 7, 7, 7)):
        body += format(part, "0%db" % width)
    return int(body + format(long_division(body + "00000000"), "08b"), 2)


def parts_of_piece(piece):
    kind, number, answer, room, held, signs = piece
    places = [ALPHABET.index(sign) for sign in signs] + [0, 0, 0, 0]
    worth = sum(2 ** (i - 1) for i in held)
    return [KINDS.index(kind), number, answer, room, worth, len(signs)] + places[:4]


def piece_of_parts(parts):
    kind, number, answer, room, worth, many = parts[:6]
    places = parts[6:10]
    if kind > 4 or room > 16 or max(places) > 93 or any(places[many:]):
        return None
    if (kind in (0, 4) and number != 0) or (many not in (1, 2, 3, 4) if kind == 1 else many != 0):
        return None
    held = tuple(i for i in range(1, 16) if worth & 2 ** (i - 1))
    return (KINDS[kind], number, answer, room, held, "".join(ALPHABET[place] for place in places[:many]))


def many_pieces():
    told = list(PIECES)
    seed = 1
    for turn in range(400):
        seed = (seed * 6364136223846793005 + 1442695040888963407) % 2 ** 64
        draw = seed >> 8
        kind = KINDS[turn % 5]
        number = 0 if kind in ("bare", "ask") else draw % 64
        held = tuple(i for i in range(1, 16) if draw >> (20 + i) & 1)
        signs = ""
        if kind == "signs":
            signs = "".join(ALPHABET[(draw >> 7 * i) % 94] for i in range(1 + turn // 5 % 4))
        told.append((kind, number, (draw >> 6) % 64, (draw >> 12) % 17, held, signs))
    return told


class IsPiece(unittest.TestCase):
    def are(self, things, answer):
        for thing in things:
            self.assertIs(is_piece(thing), answer, thing)

    def test_pieces_of_all_kinds(self):
        self.are(many_pieces(), True)

    def test_other_kinds(self):
        self.are([(kind, 0, 0, 0, (), "") for kind in ("", "Bare", "bare ", "new", "again", "b", "sign")], False)

    def test_number_bounds(self):
        for kind, signs in (("signs", "a"), ("begin", ""), ("end", "")):
            self.are([(kind, number, 0, 0, (), signs) for number in (0, 1, 62, 63)], True)
            self.are([(kind, number, 0, 0, (), signs) for number in (-1, 64, 1000, -(10 ** 59))], False)

    def test_number_where_the_kind_bears_none(self):
        for kind in ("bare", "ask"):
            self.are([(kind, 0, 0, 0, (), "")], True)
            self.are([(kind, number, 0, 0, (), "") for number in (-1, 1, 63, 64)], False)

    def test_answer_bounds(self):
        for kind in ("bare", "begin", "end", "ask"):
            self.are([(kind, 0, answer, 0, (), "") for answer in (0, 1, 62, 63)], True)
            self.are([(kind, 0, answer, 0, (), "") for answer in (-1, 64, 10 ** 59)], False)

    def test_room_bounds(self):
        for kind in ("bare", "begin", "end", "ask"):
            self.are([(kind, 0, 0, room, (), "") for room in (0, 1, 15, 16)], True)
            self.are([(kind, 0, 0, room, (), "") for room in (-1, 17, 31, 32)], False)

    def test_held(self):
        self.are([("bare", 0, 0, 0, held, "") for held in ((), (1,), (15,), (1, 15), (7, 8), ALL_HELD)], True)
        wrong = ((0,), (16,), (-1,), (0, 1), (1, 16), (2, 1), (1, 3, 2), (4, 4), (1, 1), (15, 15), (1, 2, 2, 3))
        self.are([("bare", 0, 0, 0, held, "") for held in wrong], False)

    def test_how_many_signs(self):
        self.are([("signs", 0, 0, 0, (), "abcd"[:many]) for many in (1, 2, 3, 4)], True)
        self.are([("signs", 0, 0, 0, (), signs) for signs in ("", "abcde", "a" * 400)], False)

    def test_signs_where_the_kind_bears_none(self):
        for kind in ("bare", "begin", "end", "ask"):
            self.are([(kind, 0, 0, 0, (), signs) for signs in ("a", " ", "abcd", "abcde", "\n")], False)

    def test_each_of_the_ninety_four(self):
        self.are([("signs", 0, 0, 0, (), sign) for sign in ALPHABET], True)
        self.are([("signs", 0, 0, 0, (), "abc" + sign) for sign in ALPHABET], True)

    def test_signs_outside_the_ninety_four(self):
        outside = [chr(code) for code in range(32)] + ["\x7f", "\x25", "\xe4"]
        self.are([("signs", 0, 0, 0, (), sign) for sign in outside], False)
        self.are([("signs", 0, 0, 0, (), "a" + sign) for sign in outside], False)
        self.are([("signs", 0, 0, 0, (), "ab" + sign + "c") for sign in outside], False)

    def test_truths_are_no_whole_numbers(self):
        self.are([("begin", True, 0, 0, (), ""), ("bare", False, 0, 0, (), ""), ("bare", 0, True, 0, (), "")], False)
        self.are([("bare", 0, 0, False, (), ""), ("bare", 0, 0, 0, (True,), "")], False)


class Remainder(unittest.TestCase):
    def test_named_ones(self):
        self.assertEqual(remainder(256), 7)
        self.assertEqual(remainder(512), 14)
        self.assertEqual(remainder(255), 255)

    def test_below_the_divisor(self):
        for number in range(256):
            self.assertEqual(remainder(number), number)
        self.assertEqual(remainder(263), 0)
        self.assertEqual(remainder(263 << 180), 0)

    def test_against_long_division(self):
        numbers = [10 ** 60 - 1, 10 ** 60 - 2, 10 ** 60 - 257, 10 ** 59, 2 ** 199, 2 ** 74 - 1, 2 ** 74, 2 ** 64]
        for number in numbers + list(range(256, 2000)) + [3 ** power for power in range(125)]:
            self.assertEqual(remainder(number), long_division(format(number, "0208b")), number)

    def test_doubling(self):
        left = 1
        for power in range(199):
            self.assertEqual(remainder(1 << power), left)
            left = left * 2 if left < 128 else left * 2 ^ 263

    def test_whole_frames_leave_nothing(self):
        for piece in many_pieces():
            frame = written(piece)
            self.assertEqual(remainder(frame), 0)
            self.assertEqual(frame & 255, remainder(frame - (frame & 255)))


class Written(unittest.TestCase):
    def test_part_by_part(self):
        told = (
            (("bare", 0, 63, 16, (1,), ""), [0, 0, 63, 16, 1, 0, 0, 0, 0, 0]),
            (("signs", 63, 1, 9, (15,), "$&~ "), [1, 63, 1, 9, 16384, 4, 4, 5, 93, 0]),
            (("signs", 1, 2, 3, (2, 3), " "), [1, 1, 2, 3, 6, 1, 0, 0, 0, 0]),
            (("signs", 1, 2, 3, (), "~$"), [1, 1, 2, 3, 0, 2, 93, 4, 0, 0]),
            (("signs", 1, 2, 3, (), "&!\""), [1, 1, 2, 3, 0, 3, 5, 1, 2, 0]),
            (("begin", 32, 31, 0, ALL_HELD, ""), [2, 32, 31, 0, 32767, 0, 0, 0, 0, 0]),
            (("end", 5, 0, 1, (1, 15), ""), [3, 5, 0, 1, 16385, 0, 0, 0, 0, 0]),
            (("ask", 0, 7, 15, (8,), ""), [4, 0, 7, 15, 128, 0, 0, 0, 0, 0]),
        )
        for piece, parts in told:
            self.assertEqual(parts_of(written(piece))[:10], parts, piece)

    def test_written_out(self):
        self.assertEqual(written(("bare", 0, 0, 0, (), "")), 0)
        self.assertEqual(written(("begin", 0, 0, 0, (), "")), 2 ** 72 + long_division("1" + "0" * 72))
        bits = "001" "100001" "010010" "01001" "000000010000110" "001" "0000100" "0000000" "0000000" "0000000"
        frame = written(("signs", 33, 18, 9, (2, 3, 8), "$"))
        self.assertEqual(format(frame, "074b"), bits + format(long_division(bits + "0" * 8), "08b"))

    def test_each_sign_has_its_place(self):
        for place, sign in enumerate(ALPHABET):
            for at in range(4):
                signs = " " * at + sign + " " * (3 - at)
                self.assertEqual(parts_of(written(("signs", 0, 0, 0, (), signs)))[6 + at], place)

    def test_against_the_parts(self):
        for piece in many_pieces():
            frame = written(piece)
            self.assertIs(type(frame), int)
            self.assertTrue(0 <= frame <= 2 ** 74 - 1)
            self.assertEqual(frame, frame_of_parts(parts_of_piece(piece)), piece)

    def test_what_is_no_piece_is_refused_and_borne(self):
        wrong = (
            ("new", 0, 0, 0, (), ""),
            ("bare", 1, 0, 0, (), ""),
            ("ask", 63, 0, 0, (), ""),
            ("begin", 64, 0, 0, (), ""),
            ("begin", -1, 0, 0, (), ""),
            ("end", 0, 64, 0, (), ""),
            ("end", 0, -1, 0, (), ""),
            ("end", 0, 0, 17, (), ""),
            ("end", 0, 0, -1, (), ""),
            ("bare", 0, 0, 0, (0,), ""),
            ("bare", 0, 0, 0, (16,), ""),
            ("bare", 0, 0, 0, (3, 2), ""),
            ("bare", 0, 0, 0, (3, 3), ""),
            ("bare", 0, 0, 0, (), "a"),
            ("signs", 0, 0, 0, (), ""),
            ("signs", 0, 0, 0, (), "abcde"),
            ("signs", 0, 0, 0, (), "a\n"),
            ("signs", 0, 0, 0, (), "\t"),
            ("begin", True, 0, 0, (), ""),
        )
        for thing in wrong:
            with self.assertRaises(NoPiece) as taken:
                written(thing)
            self.assertEqual(taken.exception.what, thing)


class Read(unittest.TestCase):
    def refuses(self, frame, refusal):
        with self.assertRaises(refusal) as taken:
            read(frame)
        field = "what" if refusal is NoPiece else "frame"
        self.assertEqual(getattr(taken.exception, field), frame)

    def test_written_is_read_to_the_same_piece(self):
        for piece in many_pieces():
            told = read(written(piece))
            self.assertEqual(told, piece)
            self.assertEqual([type(part) for part in told], [str, int, int, int, tuple, str])

    def test_no_frame(self):
        for frame in (-1, -256, -(2 ** 74), 1 - 10 ** 60, 2 ** 74, 2 ** 74 + 1, 263 << 66, 2 ** 80, 10 ** 60 - 1):
            self.refuses(frame, NoFrame)

    def test_no_frame_comes_ahead_of_the_check(self):
        # These leave no remainder, and yet they are too great, or below 0.
        for frame in (263 << 70, 263 << 150, -263):
            self.refuses(frame, NoFrame)

    def test_spoilt(self):
        for frame in (1, 255, 256, 2 ** 74 - 1, 2 ** 73):
            self.assertNotEqual(long_division(format(frame, "074b")), 0)
            self.refuses(frame, Spoilt)

    def test_spoilt_comes_ahead_of_no_piece(self):
        for parts in ([7, 0, 0, 0, 0, 0, 0, 0, 0, 0], [1, 0, 0, 31, 0, 1, 94, 0, 0, 0]):
            self.refuses(frame_of_parts(parts) ^ 1, Spoilt)

    def test_no_piece(self):
        wrong = (
            [5, 0, 0, 0, 0, 0, 0, 0, 0, 0],
            [6, 0, 0, 0, 0, 0, 0, 0, 0, 0],
            [7, 63, 63, 31, 32767, 7, 127, 127, 127, 127],
            [0, 0, 0, 17, 0, 0, 0, 0, 0, 0],
            [2, 0, 0, 31, 0, 0, 0, 0, 0, 0],
            [0, 1, 0, 0, 0, 0, 0, 0, 0, 0],
            [4, 32, 0, 0, 0, 0, 0, 0, 0, 0],
            [1, 0, 0, 0, 0, 1, 94, 0, 0, 0],
            [1, 0, 0, 0, 0, 4, 0, 0, 0, 127],
            [1, 0, 0, 0, 0, 2, 94, 1, 0, 0],
            [1, 0, 0, 0, 0, 3, 94, 1, 2, 3],
            [1, 0, 0, 0, 0, 0, 0, 0, 0, 0],
            [1, 0, 0, 0, 0, 0, 1, 0, 0, 0],
            [1, 0, 0, 0, 0, 5, 1, 1, 1, 1],
            [1, 0, 0, 0, 0, 7, 1, 1, 1, 1],
            [0, 0, 0, 0, 0, 1, 0, 0, 0, 0],
            [2, 0, 0, 0, 0, 4, 1, 1, 1, 1],
            [3, 0, 0, 0, 0, 0, 0, 0, 0, 1],
            [3, 0, 0, 0, 0, 0, 94, 0, 0, 0],
            [1, 0, 0, 0, 0, 1, 1, 1, 0, 0],
            [1, 0, 0, 0, 0, 3, 1, 1, 1, 127],
            [1, 0, 0, 0, 0, 2, 1, 1, 0, 94],
        )
        for parts in wrong:
            self.assertIsNone(piece_of_parts(parts), parts)
            self.refuses(frame_of_parts(parts), NoPiece)

    def test_room_and_signs_at_their_bounds(self):
        self.assertEqual(read(frame_of_parts([0, 0, 0, 16, 0, 0, 0, 0, 0, 0])), ("bare", 0, 0, 16, (), ""))
        self.assertEqual(read(frame_of_parts([1, 0, 0, 0, 0, 1, 93, 0, 0, 0])), ("signs", 0, 0, 0, (), "~"))
        self.assertEqual(read(0), ("bare", 0, 0, 0, (), ""))

    def test_every_part_at_every_value(self):
        for piece in PIECES:
            for at, width in enumerate((3, 6, 6, 5, 15, 3, 7, 7, 7, 7)):
                for value in range(0, 2 ** width, 1 if width < 15 else 257):
                    parts = parts_of_piece(piece)
                    parts[at] = value
                    frame = frame_of_parts(parts)
                    other = piece_of_parts(parts)
                    if other is None:
                        self.refuses(frame, NoPiece)
                    else:
                        self.assertEqual(read(frame), other)
                        self.assertEqual(written(other), frame)


class Runs(unittest.TestCase):
    RUNS = (1, 2, 3, 7, 16, 85, 127, 128, 129, 131, 170, 254, 255)

    def test_spoilt_frames_are_refused(self):
        for piece in PIECES:
            frame = written(piece)
            for run in self.RUNS:
                for place in range(67):
                    spoilt = frame ^ (run << place)
                    with self.assertRaises(Spoilt) as taken:
                        read(spoilt)
                    self.assertEqual(taken.exception.frame, spoilt)

    def test_all_runs_at_the_outmost_places(self):
        for piece in (PIECES[0], PIECES[10]):
            frame = written(piece)
            for run in range(1, 256):
                for place in (0, 1, 33, 65, 66):
                    with self.assertRaises(Spoilt):
                        read(frame ^ (run << place))

    def test_joined_once_more_they_are_read(self):
        for piece in PIECES:
            for run in self.RUNS:
                for place in (0, 1, 8, 33, 65, 66):
                    spoilt = written(piece) ^ (run << place)
                    self.assertEqual(read(spoilt ^ (run << place)), piece)


if __name__ == "__main__":
    unittest.main()
