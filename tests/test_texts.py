"""Texts by `read`, `cost`, `unroll` and `more`: what they tell and cost, and the first fault."""

import itertools
import unittest

from tests.helper import (
    ONES, SIZES, SOME_WEIGHTS, TELL, Jumps, ask, bytes_of, cost, last, made_up_text, more, read, reference_cost,
    reference_read, stitches_of, unroll, unrolled, weights, word,
)

EIGHT = "[[[[[[[[a]]]]]]]]"

# Text, the row it tells, letters, numbers, round brackets, others, depth.
RIGHT = (
    ("a", "a", 1, 0, 0, 0, 0),
    ("z", "z", 1, 0, 0, 0, 0),
    ("az", "az", 2, 0, 0, 0, 0),
    ("a2", "aa", 1, 1, 0, 0, 0),
    ("a9b10", "a" * 9 + "b" * 10, 2, 2, 0, 0, 0),
    ("a40", "a" * 40, 1, 1, 0, 0, 0),
    ("a2a2", "aaaa", 2, 2, 0, 0, 0),
    ("(a)2", "aa", 1, 1, 1, 0, 1),
    ("(ab)3", "ababab", 2, 1, 1, 0, 1),
    ("(ab)20", "ab" * 20, 2, 1, 1, 0, 1),
    ("(a2b)3c", "aabaabaabc", 3, 2, 1, 0, 1),
    ("<a>", "aa", 1, 0, 0, 1, 1),
    ("<ab>", "abba", 2, 0, 0, 1, 1),
    ("<a20>", "a" * 40, 1, 1, 0, 1, 1),
    ("[a]", "a", 1, 0, 0, 1, 1),
    ("[ab]", "aba", 2, 0, 0, 1, 1),
    ("[ab2]", "abbba", 2, 1, 0, 1, 1),
    ("[abc]", "abcba", 3, 0, 0, 1, 1),
    ("[a20]", "a" * 39, 1, 1, 0, 1, 1),
    ("[a20]b", "a" * 39 + "b", 2, 1, 0, 1, 1),
    ("<[ab]c>", "abaccaba", 3, 0, 0, 2, 2),
    ("[<ab>c]", "abbacabba", 3, 0, 0, 2, 2),
    ("((ab)2c)2", "ababcababc", 3, 2, 2, 0, 2),
    ("(a)2(b)3", "aabbb", 2, 2, 2, 0, 1),
    ("(<a>[bc])2d", "aabcbaabcbd", 4, 1, 1, 2, 2),
    ("x<y><(z)2>", "xyyzzzz", 3, 1, 1, 2, 2),
    ("[[a]]b[c]", "abc", 3, 0, 0, 3, 2),
    ("<<<<<a>>>>>", "a" * 32, 1, 0, 0, 5, 5),
    ("(((((a)2)2)2)2)2", "a" * 32, 1, 5, 5, 0, 5),
    ("([[[[[[[a]]]]]]])3", "aaa", 1, 1, 1, 7, 8),
    (EIGHT, "a", 1, 0, 0, 8, 8),
    (EIGHT + EIGHT, "aa", 2, 0, 0, 16, 8),
)

# Text, kind, place.
FAULTY = (
    # a byte that can't stand there
    (")", 1, 0), (">", 1, 0), ("]", 1, 0), ("2", 1, 0), ("0", 1, 0), ("A", 1, 0), (" ", 1, 0), ("\n", 1, 0),
    ("a)", 1, 1), ("a>", 1, 1), ("a]", 1, 1), ("a b", 1, 1), ("a,b", 1, 1), ("aB", 1, 1), ("a-2", 1, 1),
    ("()2", 1, 1), ("<>", 1, 1), ("[]", 1, 1), ("(2)2", 1, 1), ("<2>", 1, 1), ("[0]", 1, 1),
    ("(a>2", 1, 2), ("(a]2", 1, 2), ("<a)2", 1, 2), ("<a]", 1, 2), ("[a)2", 1, 2), ("[a>", 1, 2),
    ("<a>2", 1, 3), ("[a]2", 1, 3), ("<a>0", 1, 3), ("[a]100", 1, 3), ("a2 ", 1, 2), ("(a)2)", 1, 4),
    ("(<a)2>", 1, 3), ("([a)2]", 1, 3), ("<(a>)2", 1, 3), ("a\0", 1, 1), ("a2\0", 1, 2),
    # a number that lacks
    ("(a)", 1, 3), ("(a)b", 1, 3), ("(a)(b)2", 1, 3), ("(a))2", 1, 3), ("<(a)>", 1, 4), ("((a)2)", 1, 6),
    ("(a)-2", 1, 3), ("(a) 2", 1, 3),
    # a bracket that lacks, or all
    ("", 1, 0), ("(", 1, 1), ("<", 1, 1), ("[", 1, 1), ("(a", 1, 2), ("<a", 1, 2), ("[a", 1, 2), ("(a2", 1, 3),
    ("a(", 1, 2), ("((a)2", 1, 5), ("<[ab]", 1, 5), ("[<ab>", 1, 5), ("((((((((", 1, 8), ("((((((((a", 1, 9),
    # digits that aren't as told
    ("a0", 2, 1), ("a1", 2, 1), ("a00", 2, 1), ("a01", 2, 1), ("a02", 2, 1), ("a09", 2, 1), ("a000", 2, 1),
    ("a100", 2, 1), ("a999", 2, 1), ("a222222222222222222222222", 2, 1), ("a002", 2, 1), ("a1b", 2, 1),
    ("(a)0", 2, 3), ("(a)1", 2, 3), ("(a)02", 2, 3), ("(a)10a0", 2, 6), ("(a)100", 2, 3), ("ab3c1", 2, 4),
    ("<a1>", 2, 2), ("[ab0]", 2, 3), ("(a1)2", 2, 2),
    # more than 40 stitches
    ("a41", 3, 3), ("a99", 3, 3), ("a40b", 3, 4), ("ba40", 3, 4), ("(a)41", 3, 5), ("(ab)21", 3, 6), ("<a21>", 3, 5),
    ("[a21]", 3, 5), ("<a20>b", 3, 6), ("[a20]bc", 3, 7), ("(a41)2", 3, 6), ("<a99>", 3, 5), ("[a99]", 3, 5),
    ("a20b21", 3, 6), ("a41b", 3, 4), ("b(a41)2b", 3, 8), ("<<<<<<a>>>>>>", 3, 13), ("a" * 41, 3, 41),
    # a ninth bracket within eight
    ("(((((((((", 4, 8), ("<<<<<<<<<", 4, 8), ("[[[[[[[[[", 4, 8), ("([<([<([<", 4, 8), ("[" + EIGHT + "]", 4, 8),
    ("a[[[[[[[[b[c]]]]]]]]]", 4, 10), (EIGHT + "[[[[[[[[[", 4, 25),
    # several: the first counts
    ("a1(", 2, 1), ("a0)", 2, 1), ("a)0", 1, 1), ("()a0", 1, 1), ("(a)x1", 1, 3), ("(a)1)", 2, 3), ("a1b0", 2, 1),
    ("a99a1", 2, 4), ("a99)", 1, 3), ("a99(", 1, 4), ("(a99)", 1, 5), ("a!(((((((((", 1, 1), ("a1(((((((((", 2, 1),
    ("((((((((()", 4, 8), ("((((((((((a1", 4, 8), ("((((((((a)(", 1, 10), ("((((((((a1(", 2, 9), ("a41!", 1, 3),
    ("a99[[[[[[[[[", 4, 11),
)


def far_too_long():
    """Texts that tell far more stitches than could be written out."""
    deep = "((((((((z99)99)99)99)99)99)99)99)99"
    return (deep, deep * 11, "<" * 8 + "z99" + ">" * 8, "[" * 8 + "z99" + "]" * 8, ("<(a99)99>" * 44)[:396])


class RightTexts(unittest.TestCase):
    def test_read_tells_the_row_and_the_cost(self):
        for text, row, letters, numbers, rounds, others, _ in RIGHT:
            for weighed in SOME_WEIGHTS:
                costs = letters * weighed[0] + numbers * weighed[1] + rounds * weighed[2] + others * weighed[3]
                with self.subTest(text=text, weighed=weighed):
                    self.assertEqual(
                        ask(weights(*weighed), read(text), TELL),
                        [[0], [0, 0, len(row), costs], [0] + stitches_of(row)])

    def test_cost_tells_cost_and_depth_and_leaves_the_row(self):
        for text, row, letters, numbers, rounds, others, depth in RIGHT:
            for weighed in SOME_WEIGHTS:
                costs = letters * weighed[0] + numbers * weighed[1] + rounds * weighed[2] + others * weighed[3]
                with self.subTest(text=text, weighed=weighed):
                    self.assertEqual(
                        ask(weights(*weighed), cost(text), word(row), cost(text), word("qr"), cost(text), TELL),
                        [[0], [0, 0, costs, 0, depth], [0], [0, 0, costs, 1, depth], [0], [0, 0, costs, 0, depth],
                         [0, 16, 17]])

    def test_unroll_tells_the_stitches_and_leaves_the_row(self):
        for text, row, *_ in RIGHT:
            with self.subTest(text=text):
                self.assertEqual(ask(unroll(text), TELL, word("qr"), unroll(text), TELL),
                                 [[0, 0] + stitches_of(row), [0], [0], [0, 0] + stitches_of(row), [0, 16, 17]])

    def test_more_puts_the_stitches_behind_the_row(self):
        for text, row, *_ in RIGHT:
            long = len(row) + 2 > 40
            with self.subTest(text=text):
                self.assertEqual(ask(more(text), TELL), [[0, 0, len(row)], [0] + stitches_of(row)])
                self.assertEqual(ask(word("qr"), more(text), TELL)[1:], [
                    [-8] if long else [0, 0, len(row) + 2], [0, 16, 17] + ([] if long else stitches_of(row))])

    def test_like_rows_are_told_apart(self):
        for row in ("ab", "abc", "abb", "ba", "a", "b", "aba"):
            self.assertEqual(last(word("ab"), cost(row))[3], int(row == "ab"), row)

    def test_each_letter(self):
        for stitch in range(26):
            letter = bytes([97 + stitch]).decode()
            self.assertEqual(ask(read(letter + "3"), TELL), [[0, 0, 3, 2], [0] + [stitch] * 3])

    def test_each_number(self):
        for number in range(2, 41):
            for text in (f"b{number}", f"(b){number}"):
                self.assertEqual(ask(read(text), TELL)[1], [0] + [1] * number, text)
        for number in range(41, 100):
            for text in (f"b{number}", f"(b){number}"):
                self.assertEqual(last(read(text)), [0, 3, len(text)], text)

    def test_texts_of_400_bytes(self):
        text = EIGHT * 23 + "[[[[a]]]]"
        self.assertEqual(len(text), 400)
        self.assertEqual(ask(read(text), TELL, cost(text)), [
            [0, 0, 24, 24 + 23 * 8 + 4], [0] + [0] * 24, [0, 0, 24 + 23 * 8 + 4, 1, 8]])
        self.assertEqual(ask(read("a" * 400), cost("a" * 400)), [[0, 3, 400], [0, 3, 400]])
        self.assertEqual(last(read("a" * 399 + "!")), [0, 1, 399])

    def test_texts_of_401_bytes(self):
        text = EIGHT * 23 + "[[[[a]]]]b"
        self.assertEqual(ask(read(text), cost(text), read("!" * 401), cost("!" * 401), TELL), [[-1]] * 4 + [[0]])


class FirstFaults(unittest.TestCase):
    def test_faults(self):
        for text, kind, place in FAULTY:
            with self.subTest(text=text):
                self.assertEqual(
                    ask(read(text), cost(text), word("cab"), read(text), TELL, cost(text), cost("cab")),
                    [[0, kind, place], [0, kind, place], [0], [0, kind, place], [0, 2, 0, 1], [0, kind, place],
                     [0, 0, 3, 1, 0]])

    def test_faults_of_unroll_and_more(self):
        full = "ab" * 20
        for text, kind, place in FAULTY:
            fault = [0, kind, place]
            with self.subTest(text=text):
                self.assertEqual(
                    ask(unroll(text), more(text), TELL, word("cab"), unroll(text), more(text), TELL, SIZES, word(full),
                        unroll(text), more(text), TELL),
                    [fault, fault, [0], [0], fault, fault, [0, 2, 0, 1], [0, *ONES, 3, 3, 3], [0], fault, fault,
                     [0] + [0, 1] * 20])

    def test_a_fault_leaves_the_weights(self):
        for text, kind, place in FAULTY:
            for call in (read, cost, unroll, more):
                with self.subTest(text=text, call=call.__name__):
                    self.assertEqual(
                        ask(weights(2, 3, 4, 5), call(text), cost("(a)2<b>"), SIZES),
                        [[0], [0, kind, place], [0, 0, 16, 0, 1], [0, 2, 3, 4, 5, 0, 0, 0]])

    def test_far_too_many_stitches(self):
        for text in far_too_long():
            with self.subTest(text=text):
                length = len(text)
                for call in (read, cost, unroll, more):
                    self.assertEqual(last(call(text)), [0, 3, length])
                    # What is wrong in the text comes ahead of how much it tells.
                    self.assertEqual(last(call(text + "!")), [0, 1, length])
                    self.assertEqual(last(call(text + "a1")), [0, 2, length + 1])

    def test_each_byte_at_each_kind_of_place(self):
        letters = set(range(97, 123))
        openings = set(b"(<[")
        digits = set(b"23456789")
        others_around = ((b"", letters | openings), (b"a", letters | openings | digits), (b"(", letters | openings),
                         (b"(a)", digits), (b"(a)2", letters | openings | set(b"0123456789")),
                         (b"<a>", letters | openings), (b"[a]", letters | openings), (b"<", letters | openings),
                         (b"(a", letters | openings | digits | set(b")")),
                         (b"<a", letters | openings | digits | set(b">")),
                         (b"[a", letters | openings | digits | set(b"]")))
        for before, may_stand in others_around:
            for byte in range(256):
                text = list(before) + [byte]
                answered = last(cost(text))
                kind_and_place = answered[1:] if answered[1] != 0 else None
                with self.subTest(before=before, byte=byte):
                    if byte in may_stand:
                        self.assertNotEqual(kind_and_place, [1, len(before)])
                    elif byte in b"01" and before[-1:] not in (b"", b"(", b"<", b">", b"]"):
                        self.assertEqual(kind_and_place, [2, len(before)])
                    else:
                        self.assertEqual(kind_and_place, [1, len(before)])


class AgainstASecondReader(unittest.TestCase):
    def compare(self, texts, weighed, row="ab"):
        for at in range(0, len(texts), 58):
            some = texts[at:at + 58]
            expected = [reference_cost(text, row, weighed) for text in some]
            found = ask(weights(*weighed), word(row), *[cost(text) for text in some])[2:]
            if found != expected:
                for text, one, other in zip(some, found, expected):
                    self.assertEqual(one, other, text)

    def test_all_texts_of_few_signs(self):
        for count in range(5):
            self.compare(["".join(signs) for signs in itertools.product("ab012()<>[]!", repeat=count)], (4, 1, 3, 2))

    def test_right_texts_with_one_sign_changed(self):
        jumps = Jumps(7)
        texts = []
        for _ in range(300):
            text = made_up_text(jumps, "ab", 9)[:200]
            place = jumps.below(len(text) + 1)
            sign = jumps.one_of("ab0123459()<>[]!")
            texts += [text, text[:place] + sign + text[place + 1:], text[:place] + sign + text[place:],
                      text[:place] + text[place + 1:]]
        self.compare(texts, (9, 2, 5, 3))

    def test_what_is_told_is_the_row(self):
        jumps = Jumps(11)
        told = 0
        for _ in range(400):
            text = made_up_text(jumps, "abz", 4)
            fault, parts = reference_read(text)
            if not fault:
                told += 1
                self.assertEqual(last(read(text), TELL), [0] + stitches_of(unrolled(parts)), text)
                self.assertEqual(last(unroll(text)), [0, 0] + stitches_of(unrolled(parts)), text)
                self.assertEqual(last(more(text), TELL), [0] + stitches_of(unrolled(parts)), text)
        self.assertGreater(told, 100)

    def test_bytes_above_the_letters(self):
        for byte in (0xB2, 0xB3, 0xB9, 0xE4, 0xFF):
            self.assertEqual(ask(read([97, byte]), cost([byte])), [[0, 1, 1], [0, 1, 0]])
        self.assertEqual(bytes_of("a2"), [97, 50])
        self.assertEqual(reference_cost("a\xb2", "a", ONES), [0, 1, 1])


if __name__ == "__main__":
    unittest.main()
