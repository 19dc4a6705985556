"""`repeat` and `mirrored`: the longest stretch, of as long ones the first, with its least period."""

import itertools
import unittest

from tests.helper import (
    DOUBLE, MIRRORED, REPEAT, REVERSE, Jumps, ask, change, insert, last, made_up_rows, more, reference_mirrored,
    reference_repeat, remove, swap, word,
)

LETTERS = "abcdefghijklmnopqrstuvwxyz"

# Row, and of its longest stretch with a period: the place, the least period, how often.
REPEATS = (
    ("aa", 0, 1, 2), ("aab", 0, 1, 2), ("baa", 1, 1, 2), ("abab", 0, 2, 2), ("xabab", 1, 2, 2), ("ababx", 0, 2, 2),
    ("abcabc", 0, 3, 2), ("xabcabcy", 1, 3, 2), ("zababababq", 1, 2, 4), ("abcdeabcde", 0, 5, 2),
    # the stretch is a multiple of its period: what stands over is not in it
    ("ababa", 0, 2, 2), ("xababay", 1, 2, 2), ("abcabcab", 0, 3, 2), ("abababc", 0, 2, 3),
    # of as long ones the first, whatever their periods
    ("aabb", 0, 1, 2), ("bbaa", 0, 1, 2), ("abaabb", 2, 1, 2), ("aaaababab", 3, 2, 3), ("ababaaaa", 0, 2, 2),
    ("aaaacdcd", 0, 1, 4), ("cdcdaaaa", 0, 2, 2), ("cdcdxaaaay", 0, 2, 2), ("abcabcxdddddd", 0, 3, 2),
    ("ddddddxabcabc", 0, 1, 6), ("abaaba", 0, 3, 2),
    # the longest, though a shorter one comes ahead or repeats more often
    ("aaabcbc", 3, 2, 2), ("aaaabcdbcd", 4, 3, 2), ("bcdbcdaaaa", 0, 3, 2), ("aabaab", 0, 3, 2),
    ("aaaxabcdabcd", 4, 4, 2), ("zzzzzyxwyxw", 5, 3, 2), ("babaabab", 1, 3, 2),
    # the least of several periods
    ("aaaa", 0, 1, 4), ("aaaaaa", 0, 1, 6), ("abababab", 0, 2, 4), ("abcabcabcabc", 0, 3, 4), ("abababababab", 0, 2, 6),
    ("aabaabaabaab", 0, 3, 4), ("xabababab", 1, 2, 4),
    # two lots of one stitch and between them another
    ("aba", None, None, None), ("abcba", None, None, None), ("abacaba", None, None, None),
)

# Row, and of its longest stretch that's the same backwards: the place, how long it is.
MIRRORS = (
    ("a", 0, 1), ("ab", 0, 1), ("abc", 0, 1), ("aa", 0, 2), ("baa", 1, 2), ("aab", 0, 2), ("aba", 0, 3), ("xaba", 1, 3),
    ("abba", 0, 4), ("xabbay", 1, 4), ("abcba", 0, 5), ("xabcbayz", 1, 5), ("abab", 0, 3), ("ababa", 0, 5),
    # of as long ones the first
    ("aabb", 0, 2), ("abbcc", 1, 2), ("abacdcded", 0, 3), ("xyaabb", 2, 2), ("abacbcb", 0, 3), ("abbaxcddc", 0, 4),
    ("abcb", 1, 3), ("bcbab", 0, 3), ("abaabbab", 1, 4),
    # the longest, though a shorter one comes ahead
    ("aabcb", 2, 3), ("aaabccbx", 3, 4), ("abaxyzzyx", 3, 6), ("abbacdedc", 4, 5),
)


def edge_rows():
    """Rows of 1, 20, 21, 39 and 40 stitches: all alike, without repeats, and with one stitch that breaks all."""
    for length in (1, 2, 20, 21, 39, 40):
        yield "a" * length
        yield "a" * (length - 1) + "b"
        yield "b" + "a" * (length - 1)
        yield (LETTERS * 2)[:length]
        yield ("ab" * 20)[:length]
        yield ("abc" * 14)[:length]
        yield ("abba" * 10)[:length]
        half = (LETTERS * 2)[:length // 2]
        yield half + half + "z" * (length % 2)
        yield half + "z" * (length % 2) + half[::-1]


class ByHand(unittest.TestCase):
    def test_repeat(self):
        for row, place, period, times in REPEATS:
            expected = [0, 0] if place is None else [0, 1, place, period, times]
            self.assertEqual(last(word(row), REPEAT), expected, row)

    def test_mirrored(self):
        for row, place, length in MIRRORS:
            self.assertEqual(last(word(row), MIRRORED), [0, place, length], row)

    def test_the_empty_row(self):
        self.assertEqual(ask(REPEAT, MIRRORED), [[0, 0], [-2]])
        self.assertEqual(ask(word("a"), remove(0), REPEAT, MIRRORED), [[0], [0, 0], [0, 0], [-2]])

    def test_one_stitch(self):
        for stitch in (0, 25):
            self.assertEqual(ask(word([stitch]), REPEAT, MIRRORED), [[0], [0, 0], [0, 0, 1]])

    def test_rows_without_any_repeat(self):
        for length in range(1, 27):
            self.assertEqual(ask(word(LETTERS[:length]), REPEAT, MIRRORED), [[0], [0, 0], [0, 0, 1]])
        # Of two stitches none is without a repeat from 4 on; of three some are however long.
        self.assertEqual(last(word("abcacbabcbac" "abcacbacabcb"), REPEAT), [0, 0])

    def test_one_stitch_again_and_again(self):
        for length in range(2, 41):
            self.assertEqual(ask(word([25] * length), REPEAT, MIRRORED), [[0], [0, 1, 0, 1, length], [0, 0, length]])

    def test_rows_of_40_stitches(self):
        for row, repeat, mirrored in (
                ("ab" * 20, [0, 1, 0, 2, 20], [0, 0, 39]),
                ("abcdefghijklmnopqrst" * 2, [0, 1, 0, 20, 2], [0, 0, 1]),
                ("abcdefghijklmnopqrst" + "tsrqponmlkjihgfedcba", [0, 1, 19, 1, 2], [0, 0, 40]),
                ("x" + "abc" * 13, [0, 1, 1, 3, 13], [0, 0, 1]),
                ("abc" * 13 + "x", [0, 1, 0, 3, 13], [0, 0, 1]),
                ("a" * 39 + "b", [0, 1, 0, 1, 39], [0, 0, 39]),
                ("b" + "a" * 39, [0, 1, 1, 1, 39], [0, 1, 39]),
                (LETTERS + "abcdefghijklmn", [0, 0], [0, 0, 1]),
                (LETTERS + "abcdefghijklmm", [0, 1, 38, 1, 2], [0, 38, 2])):
            self.assertEqual(ask(word(row), REPEAT, MIRRORED), [[0], repeat, mirrored], row)

    def test_of_rows_that_other_calls_have_made(self):
        self.assertEqual(
            ask(word("abc"), REPEAT, DOUBLE, REPEAT, MIRRORED, change(3, 2), REPEAT, MIRRORED, remove(0), REPEAT,
                MIRRORED, insert(0, 2), REPEAT, REVERSE, REPEAT, more("(ba)3"), REPEAT, MIRRORED, swap(0, 1), REPEAT),
            [[0], [0, 0], [0, 6], [0, 1, 0, 3, 2], [0, 0, 1],
             # abccbc
             [0, 0], [0, 1, 2, 1, 2], [0, 1, 4],
             # bccbc
             [0, 0], [0, 1, 1, 1, 2], [0, 0, 4],
             # cbccbc, the same backwards
             [0, 6], [0, 1, 0, 3, 2], [0], [0, 1, 0, 3, 2],
             # cbccbcbababa
             [0, 0, 12], [0, 1, 0, 3, 2], [0, 0, 6], [0], [0, 1, 0, 3, 2]])


class AgainstAPlainSearch(unittest.TestCase):
    def compare(self, rows):
        for at in range(0, len(rows), 20):
            some = rows[at:at + 20]
            found = ask(*[call for row in some for call in (word(row), REPEAT, MIRRORED)])
            for row, repeat, mirrored in zip(some, found[1::3], found[2::3]):
                longest = reference_repeat(row)
                if repeat != ([0, 1] + longest if longest else [0, 0]) or mirrored != [0] + reference_mirrored(row):
                    self.fail(f"row {row}: {repeat}, {mirrored}")

    def test_all_short_rows(self):
        for letters, most in (("ab", 10), ("abc", 7), ("abcd", 5)):
            for length in range(1, most + 1):
                self.compare(["".join(row) for row in itertools.product(letters, repeat=length)])

    def test_edges(self):
        self.compare(list(edge_rows()))

    def test_rows_made_up_of_repeats_and_mirrors(self):
        self.compare([row for row, _ in made_up_rows(Jumps(41), 300)])

    def test_rows_that_jump_about(self):
        jumps = Jumps(43)
        for letters in ("ab", "abc", "abcde", LETTERS):
            self.compare(["".join(jumps.one_of(letters) for _ in range(length)) for length in range(1, 41)])

    def test_a_repeat_somewhere_in_a_row_without_any(self):
        rows = []
        for length in range(1, 14):
            for before in (0, 1, 5):
                for times in range(2, (40 - before) // length + 1):
                    row = "uvwxy"[:before] + LETTERS[:length] * times + "zyxwv"
                    rows.append(row[:40])
        self.compare(rows)

    def test_the_search_itself(self):
        for row, place, period, times in REPEATS:
            self.assertEqual(reference_repeat(row), None if place is None else [place, period, times], row)
        for row, place, length in MIRRORS:
            self.assertEqual(reference_mirrored(row), [place, length], row)


if __name__ == "__main__":
    unittest.main()
