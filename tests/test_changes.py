"""The calls that change a row, `unroll`, and `sizes`: whole answers, the rows that are there then, and the edges."""

import unittest

from tests.helper import (
    DOUBLE, MIRRORED, ONES, REPEAT, REVERSE, RUNS, SHORTEST, SIZES, SOME_WEIGHTS, TABLE, TELL, ask, bytes_of, change,
    cost, insert, last, letters_of, more, read, remove, stitches_of, stretch, swap, unroll, weights, word,
)

LETTERS = "abcdefghijklmnopqrstuvwxyz"
LENGTHS = (1, 2, 20, 21, 39, 40)
EMPTY_SIZES = [0, 1, 1, 1, 1, 0, 0, 0]


def row_of(length):
    """A row without two like neighbours; each of its 26 first stitches is another."""
    return stitches_of((LETTERS * 2)[:length])


def row_then(row, *calls):
    """The row, as letters, that is there behind the calls."""
    return letters_of(last(word(row), *calls, TELL)[1:])


class Change(unittest.TestCase):
    def test_answers_what_was_there(self):
        self.assertEqual(
            ask(word("abc"), change(0, 25), TELL, change(1, 25), RUNS, change(2, 25), TELL, change(1, 0), TELL),
            [[0], [0, 0], [0, 25, 1, 2], [0, 1], [0, 25, 2, 2, 1], [0, 2], [0, 25, 25, 25], [0, 25], [0, 25, 0, 25]])

    def test_to_the_same_stitch(self):
        self.assertEqual(ask(word("abc"), change(1, 1), TELL), [[0], [0, 1], [0, 0, 1, 2]])

    def test_each_place_of_each_length(self):
        for length in LENGTHS:
            row = row_of(length)
            for i in range(length):
                changed = row[:i] + [25 - row[i]] + row[i + 1:]
                self.assertEqual(ask(word(row), change(i, 25 - row[i]), TELL), [[0], [0, row[i]], [0] + changed])

    def test_the_text_and_the_table_are_those_of_the_changed_row(self):
        self.assertEqual(
            ask(word("abab"), SHORTEST, change(2, 1), SHORTEST, TABLE, change(3, 0), SHORTEST, cost("<ab>"),
                cost("abab")),
            [[0], [0, 4, 1] + bytes_of("(ab)2"), [0, 0], [0, 3, 0] + bytes_of("ab3"),
             [0, 1, 1, 1, 1, 2, 2, 2, 3, 2, 3], [0, 1], [0, 3, 1] + bytes_of("<ab>"), [0, 0, 3, 1, 1],
             [0, 0, 4, 0, 0]])


class Insert(unittest.TestCase):
    def test_at_the_beginning_within_and_at_the_end(self):
        self.assertEqual(
            ask(word("ab"), insert(0, 25), TELL, insert(3, 24), TELL, insert(1, 23), TELL, insert(4, 0), TELL),
            [[0], [0, 3], [0, 25, 0, 1], [0, 4], [0, 25, 0, 1, 24], [0, 5], [0, 25, 23, 0, 1, 24], [0, 6],
             [0, 25, 23, 0, 1, 0, 24]])

    def test_into_the_empty_row(self):
        self.assertEqual(ask(insert(0, 25), TELL, insert(1, 0), TELL, insert(0, 7), TELL),
                         [[0, 1], [0, 25], [0, 2], [0, 25, 0], [0, 3], [0, 7, 25, 0]])
        for i in (1, 2, 39, 40):
            self.assertEqual(ask(insert(i, 0), TELL), [[-3], [0]])

    def test_each_place_of_each_length(self):
        for length in (1, 2, 20, 21, 38, 39):
            row = row_of(length)
            for i in range(length + 1):
                self.assertEqual(ask(word(row), insert(i, 25), TELL),
                                 [[0], [0, length + 1], [0] + row[:i] + [25] + row[i:]])
            for i in range(length + 1, 41):
                self.assertEqual(ask(word(row), insert(i, 25), TELL), [[0], [-3], [0] + row])

    def test_into_a_row_of_40(self):
        row = row_of(40)
        for i in range(41):
            self.assertEqual(ask(word(row), insert(i, 3), TELL), [[0], [-8], [0] + row])
        self.assertEqual(ask(word(row), insert(41, 3), insert(40, 26), insert(-1, 3)), [[0], [-1], [-1], [-1]])

    def test_stitch_by_stitch_to_40(self):
        for place_of, row in ((lambda length: 0, row_of(40)[::-1]), (lambda length: length, row_of(40))):
            found = ask(*[insert(place_of(n), n % 26) for n in range(40)], insert(place_of(40), 0), TELL, SHORTEST)
            self.assertEqual(found, [[0, n] for n in range(1, 41)] + [
                [-8], [0] + row, [0, 40, 0] + bytes_of(letters_of(row))])


class Remove(unittest.TestCase):
    def test_answers_what_was_there(self):
        self.assertEqual(
            ask(word("abcd"), remove(1), TELL, remove(2), TELL, remove(0), TELL, remove(0), TELL, remove(0), TELL),
            [[0], [0, 1], [0, 0, 2, 3], [0, 3], [0, 0, 2], [0, 0], [0, 2], [0, 2], [0], [-3], [0]])

    def test_the_last_stitch_that_is_left(self):
        found = ask(weights(2, 3, 4, 5), word("z"), remove(0), TELL, RUNS, SIZES, SHORTEST, TABLE, REPEAT, MIRRORED,
                    remove(0), change(0, 0), insert(0, 1), TELL, SHORTEST)
        self.assertEqual(found[2:], [
            [0, 25], [0], [0], [0, 2, 3, 4, 5, 0, 0, 0], [-2], [-2], [0, 0], [-2], [-3], [-3], [0, 1], [0, 1],
            [0, 2, 0, 98]])

    def test_each_place_of_each_length(self):
        for length in LENGTHS:
            row = row_of(length)
            for i in range(length):
                self.assertEqual(ask(word(row), remove(i), TELL), [[0], [0, row[i]], [0] + row[:i] + row[i + 1:]])
            for i in range(length, 40):
                self.assertEqual(ask(word(row), remove(i), change(i, 0), TELL), [[0], [-3], [-3], [0] + row])

    def test_all_stitches_of_40(self):
        row = row_of(40)
        found = ask(word(row), *[remove(0)] * 40, remove(0), TELL)
        self.assertEqual(found[1:], [[0, stitch] for stitch in row] + [[-3], [0]])
        found = ask(word(row), *[remove(i) for i in range(39, -1, -1)], TELL)
        self.assertEqual(found[1:], [[0, stitch] for stitch in row[::-1]] + [[0]])

    def test_insert_and_remove_undo_each_other(self):
        for i in range(5):
            self.assertEqual(ask(word("abcd"), insert(i, 9), remove(i), TELL), [[0], [0, 5], [0, 9], [0, 0, 1, 2, 3]])


class Reverse(unittest.TestCase):
    def test_the_row_backwards(self):
        for row in ("a", "ab", "abc", "aab", "abba", "aba", "zyxwv"):
            self.assertEqual(ask(word(row), REVERSE, TELL, REVERSE, TELL),
                             [[0], [0], [0] + stitches_of(row[::-1]), [0], [0] + stitches_of(row)])

    def test_the_empty_row(self):
        self.assertEqual(ask(REVERSE, TELL, SIZES, SHORTEST), [[0], [0], EMPTY_SIZES, [-2]])

    def test_each_length(self):
        for length in LENGTHS:
            row = row_of(length)
            self.assertEqual(ask(word(row), REVERSE, TELL), [[0], [0], [0] + row[::-1]])

    def test_the_told_text_is_that_of_the_row_backwards(self):
        self.assertEqual(
            ask(word("aab"), SHORTEST, RUNS, REVERSE, SHORTEST, RUNS, stretch(1, 2)),
            [[0], [0, 3, 0] + bytes_of("aab"), [0, 0, 2, 1, 1], [0], [0, 3, 0] + bytes_of("ba2"), [0, 1, 1, 0, 2],
             [0, 2] + bytes_of("a2")])


class Unroll(unittest.TestCase):
    def test_tells_the_stitches_and_changes_nothing(self):
        self.assertEqual(
            ask(unroll("(ab)2"), TELL, word("xyz"), unroll("<ab>"), TELL, unroll("[abc]"), unroll("z3"), unroll("a"),
                TELL, SHORTEST),
            [[0, 0, 0, 1, 0, 1], [0], [0], [0, 0, 0, 1, 1, 0], [0, 23, 24, 25], [0, 0, 0, 1, 2, 1, 0],
             [0, 0, 25, 25, 25], [0, 0, 0], [0, 23, 24, 25], [0, 3, 0] + bytes_of("xyz")])

    def test_rows_of_each_length(self):
        for length in LENGTHS:
            row = row_of(length)
            self.assertEqual(ask(unroll(letters_of(row)), TELL), [[0, 0] + row, [0]])
        self.assertEqual(ask(word(row_of(40)), unroll("a40"), TELL), [[0], [0, 0] + [0] * 40, [0] + row_of(40)])

    def test_faults(self):
        self.assertEqual(
            ask(word("cab"), unroll(""), unroll("a)"), unroll("a1"), unroll("a41"), unroll("[[[[[[[[[a"), TELL),
            [[0], [0, 1, 0], [0, 1, 1], [0, 2, 1], [0, 3, 3], [0, 4, 8], [0, 2, 0, 1]])

    def test_the_told_text_unrolls_to_the_row(self):
        for row in ("a", "abab", "abcba", "aabaab" * 3, "abcdefghij" * 4):
            for weighed in SOME_WEIGHTS:
                told = last(weights(*weighed), word(row), SHORTEST)[3:]
                self.assertEqual(last(unroll(told)), [0, 0] + stitches_of(row))


class More(unittest.TestCase):
    def test_stands_behind_the_row(self):
        self.assertEqual(
            ask(word("ab"), more("c"), TELL, more("(ab)2"), TELL, more("<z>"), TELL, RUNS),
            [[0], [0, 0, 3], [0, 0, 1, 2], [0, 0, 7], [0, 0, 1, 2, 0, 1, 0, 1], [0, 0, 9],
             [0, 0, 1, 2, 0, 1, 0, 1, 25, 25], [0, 0, 1, 1, 1, 2, 1, 0, 1, 1, 1, 0, 1, 1, 1, 25, 2]])

    def test_behind_the_empty_row(self):
        self.assertEqual(ask(more("[ab]"), TELL, SHORTEST, more("b"), TELL, SHORTEST),
                         [[0, 0, 3], [0, 0, 1, 0], [0, 3, 1] + bytes_of("[ab]"), [0, 0, 4], [0, 0, 1, 0, 1],
                          [0, 4, 1] + bytes_of("(ab)2")])
        self.assertEqual(ask(more("z40"), TELL), [[0, 0, 40], [0] + [25] * 40])
        self.assertEqual(ask(more("z41"), TELL), [[0, 3, 3], [0]])

    def test_to_just_40_and_to_41(self):
        for length in (1, 2, 20, 21, 38, 39):
            row = row_of(length)
            rest = 40 - length
            told = "b" if rest == 1 else f"b{rest}"
            self.assertEqual(ask(word(row), more(told), TELL), [[0], [0, 0, 40], [0] + row + [1] * rest])
            self.assertEqual(ask(word(row), more(f"b{rest + 1}"), TELL), [[0], [-8], [0] + row])
            self.assertEqual(ask(word(row), more(f"(b){rest + 1}"), more("b40"), TELL), [[0], [-8], [-8], [0] + row])

    def test_behind_a_row_of_40(self):
        row = row_of(40)
        self.assertEqual(ask(word(row), more("a"), more("(ab)20"), more("[a]"), TELL),
                         [[0], [-8], [-8], [-8], [0] + row])

    def test_a_fault_is_answered_ahead_of_a_row_that_would_be_too_long(self):
        row = row_of(40)
        self.assertEqual(
            ask(word(row), more(""), more("a)"), more("a1"), more("a41"), more("[[[[[[[[[a"), more("aaaa!"),
                more([97, 256]), more([97] * 401), TELL),
            [[0], [0, 1, 0], [0, 1, 1], [0, 2, 1], [0, 3, 3], [0, 4, 8], [0, 1, 4], [-1], [-1], [0] + row])
        # 41 stitches by the text alone are its fault; 40, with one that is there already, are too many for the row.
        self.assertEqual(ask(word("a"), more("b41"), more("b40"), more("b39"), more("b41"), more("b")),
                         [[0], [0, 3, 3], [-8], [0, 0, 40], [0, 3, 3], [-8]])

    def test_the_text_and_the_table_are_those_of_the_longer_row(self):
        self.assertEqual(
            ask(word("ab"), more("ab"), SHORTEST, more("ab"), SHORTEST, cost("(ab)3"), SIZES),
            [[0], [0, 0, 4], [0, 4, 1] + bytes_of("(ab)2"), [0, 0, 6], [0, 4, 1] + bytes_of("(ab)3"), [0, 0, 4, 1, 1],
             [0, 1, 1, 1, 1, 6, 2, 6]])


class Double(unittest.TestCase):
    def test_the_row_stands_twice(self):
        self.assertEqual(
            ask(word("abc"), DOUBLE, TELL, DOUBLE, SHORTEST, REPEAT),
            [[0], [0, 6], [0, 0, 1, 2, 0, 1, 2], [0, 12], [0, 5, 1] + bytes_of("(abc)4"), [0, 1, 0, 3, 4]])

    def test_the_empty_row(self):
        self.assertEqual(ask(DOUBLE, TELL, DOUBLE, SIZES, SHORTEST), [[0, 0], [0], [0, 0], EMPTY_SIZES, [-2]])

    def test_each_length(self):
        for length in range(1, 41):
            row = row_of(length)
            expected = [[0, 2 * length], [0] + row + row] if length <= 20 else [[-8], [0] + row]
            self.assertEqual(ask(word(row), DOUBLE, TELL)[1:], expected)

    def test_again_and_again(self):
        self.assertEqual(ask(word("ab"), *[DOUBLE] * 6, RUNS)[1:6], [[0, 4], [0, 8], [0, 16], [0, 32], [-8]])
        self.assertEqual(ask(word("z"), *[DOUBLE] * 6, RUNS)[1:],
                         [[0, 2], [0, 4], [0, 8], [0, 16], [0, 32], [-8], [0, 25, 32]])
        self.assertEqual(ask(read("a5"), *[DOUBLE] * 4, RUNS)[1:], [[0, 10], [0, 20], [0, 40], [-8], [0, 0, 40]])


class Swap(unittest.TestCase):
    def test_each_is_the_other(self):
        for row, one, other, swapped in (
                ("ab", 0, 1, "ba"), ("aabbc", 0, 1, "bbaac"), ("aabbc", 1, 0, "bbaac"), ("abcabc", 0, 2, "cbacba"),
                ("az", 0, 25, "za"), ("az", 25, 0, "za"),
                # one of the two stands in the row, whichever
                ("aab", 0, 25, "zzb"), ("aab", 25, 0, "zzb"), ("zzy", 25, 24, "yyz"), ("aaa", 0, 1, "bbb"),
                # none of them
                ("abc", 3, 4, "abc"), ("abc", 25, 24, "abc"),
                # two like ones
                ("aab", 0, 0, "aab"), ("aab", 1, 1, "aab"), ("aab", 25, 25, "aab")):
            with self.subTest(row=row, one=one, other=other):
                self.assertEqual(ask(word(row), swap(one, other), TELL), [[0], [0], [0] + stitches_of(swapped)])
                self.assertEqual(row_then(row, swap(one, other), swap(one, other)), row)

    def test_the_empty_row(self):
        for one, other in ((0, 1), (0, 0), (25, 0)):
            self.assertEqual(ask(swap(one, other), TELL, SIZES), [[0], [0], EMPTY_SIZES])

    def test_all_pairs(self):
        row = row_of(40)
        for one in range(26):
            for other in range(26):
                expected = [{one: other, other: one}.get(stitch, stitch) for stitch in row]
                self.assertEqual(ask(word(row), swap(one, other), TELL)[1:], [[0], [0] + expected])

    def test_the_told_text_is_the_same_but_for_its_letters(self):
        self.assertEqual(
            ask(word("abbaab"), SHORTEST, swap(0, 7), SHORTEST, swap(1, 7), SHORTEST, TABLE),
            [[0], [0, 5, 1] + bytes_of("ab<ba>"), [0], [0, 5, 1] + bytes_of("hb<bh>"), [0],
             [0, 5, 1] + bytes_of("bh<hb>"), last(word("abbaab"), TABLE)])

    def test_weights_are_left(self):
        self.assertEqual(ask(weights(2, 3, 4, 5), word("ab"), swap(0, 1), SIZES)[3], [0, 2, 3, 4, 5, 2, 2, 4])


class Sizes(unittest.TestCase):
    def test_at_the_beginning(self):
        self.assertEqual(ask(SIZES), [EMPTY_SIZES])

    def test_the_empty_row_with_other_weights(self):
        self.assertEqual(ask(weights(9, 0, 3, 7), SIZES), [[0], [0, 9, 0, 3, 7, 0, 0, 0]])

    def test_rows_and_weights(self):
        for row, unlike in (("a", 1), ("z", 1), ("aa", 1), ("ab", 2), ("abab", 2), ("abcabca", 3), ("z" * 40, 1),
                            (LETTERS, 26), (LETTERS + LETTERS[:14], 26), ("a" * 39 + "b", 2), ("ab" * 10, 2),
                            ("abc" * 7, 3)):
            for weighed in SOME_WEIGHTS + ((9, 9, 9, 9), (5, 6, 7, 8)):
                with self.subTest(row=row, weighed=weighed):
                    self.assertEqual(last(weights(*weighed), word(row), SIZES),
                                     [0, *weighed, len(row), unlike, len(row) * weighed[0]])

    def test_shows_what_each_call_has_changed(self):
        self.assertEqual(
            ask(word("abc"), SIZES, weights(3, 0, 9, 1), SIZES, change(2, 1), SIZES, insert(3, 4), SIZES, remove(0),
                SIZES, REVERSE, SIZES, more("a9"), SIZES, DOUBLE, SIZES, swap(0, 1), SIZES, unroll("z7"), SIZES,
                read("q2"), SIZES)[1::2],
            [[0, 1, 1, 1, 1, 3, 3, 3], [0, 3, 0, 9, 1, 3, 3, 9], [0, 3, 0, 9, 1, 3, 2, 9], [0, 3, 0, 9, 1, 4, 3, 12],
             [0, 3, 0, 9, 1, 3, 2, 9], [0, 3, 0, 9, 1, 3, 2, 9], [0, 3, 0, 9, 1, 12, 3, 36],
             [0, 3, 0, 9, 1, 24, 3, 72], [0, 3, 0, 9, 1, 24, 3, 72], [0, 3, 0, 9, 1, 24, 3, 72],
             [0, 3, 0, 9, 1, 2, 1, 6]])

    def test_changes_nothing(self):
        self.assertEqual(ask(weights(2, 0, 1, 3), word("abba"), SIZES, SIZES, TELL, cost("(a)2<b>")),
                         [[0], [0], [0, 2, 0, 1, 3, 4, 2, 8], [0, 2, 0, 1, 3, 4, 2, 8], [0, 0, 1, 1, 0],
                          [0, 0, 8, 0, 1]])


class Ranges(unittest.TestCase):
    def test_the_least_and_the_greatest_are_taken(self):
        row = row_of(40)
        for i in (0, 39):
            for c in (0, 25):
                self.assertEqual(ask(word(row), change(i, c), remove(i), insert(i, c))[1:],
                                 [[0, row[i]], [0, c], [0, 40]])
        self.assertEqual(ask(word(row[:39]), insert(39, 25), insert(40, 25)), [[0], [0, 40], [-8]])
        self.assertEqual(ask(swap(0, 25), swap(25, 0), swap(0, 0), swap(25, 25)), [[0]] * 4)
        self.assertEqual(ask(unroll([0]), unroll([255]), more([0]), more([255])), [[0, 1, 0]] * 4)

    def test_texts_of_400_and_401_bytes(self):
        text = "[[[[[[[[a]]]]]]]]" * 23 + "[[[[a]]]]"
        self.assertEqual(len(text), 400)
        self.assertEqual(ask(unroll(text), more(text), TELL, unroll(text + "b"), more(text + "b"), SIZES),
                         [[0, 0] + [0] * 24, [0, 0, 24], [0] + [0] * 24, [-1], [-1], [0, *ONES, 24, 1, 24]])
        self.assertEqual(ask(unroll("a" * 400), more("a" * 400), unroll("a" * 399 + "!"), more("a" * 399 + "!"), TELL),
                         [[0, 3, 400], [0, 3, 400], [0, 1, 399], [0, 1, 399], [0]])


class SeveralCalls(unittest.TestCase):
    def test_a_row_that_grows_and_shrinks(self):
        self.assertEqual(
            ask(insert(0, 2), more("ba"), REVERSE, TELL, DOUBLE, SHORTEST, swap(0, 2), TELL, remove(5), change(0, 1),
                RUNS, MIRRORED, REPEAT, SIZES),
            [[0, 1], [0, 0, 3], [0], [0, 0, 1, 2], [0, 6], [0, 5, 1] + bytes_of("(abc)2"), [0], [0, 2, 1, 0, 2, 1, 0],
             [0, 0], [0, 2],
             # bbacb
             [0, 1, 2, 0, 1, 2, 1, 1, 1], [0, 0, 2], [0, 1, 0, 1, 2], [0, 1, 1, 1, 1, 5, 3, 5]])

    def test_a_call_changes_no_row_that_was_answered_or_read_before(self):
        self.assertEqual(
            ask(word("ab"), TELL, DOUBLE, TELL, change(0, 9), TELL, read("ab"), change(1, 9), TELL, more("ab"), TELL,
                change(2, 5), read("ab"), TELL),
            [[0], [0, 0, 1], [0, 4], [0, 0, 1, 0, 1], [0, 0], [0, 9, 1, 0, 1], [0, 0, 2, 2], [0, 1], [0, 0, 9],
             [0, 0, 4], [0, 0, 9, 0, 1], [0, 0], [0, 0, 2, 2], [0, 0, 1]])

    def test_the_empty_row_with_each_call(self):
        self.assertEqual(
            ask(REPEAT, MIRRORED, change(0, 0), insert(1, 0), remove(0), REVERSE, unroll("ab"), DOUBLE, swap(0, 1),
                SIZES, TELL, more("ab"), TELL),
            [[0, 0], [-2], [-3], [-3], [-3], [0], [0, 0, 0, 1], [0, 0], [0], EMPTY_SIZES, [0], [0, 0, 2], [0, 0, 1]])


if __name__ == "__main__":
    unittest.main()
