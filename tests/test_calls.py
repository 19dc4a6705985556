"""Each call with its whole answers, the ranges, and the refusals, after which all is as it was."""

import unittest

from tests.helper import (
    DOUBLE, GREATEST, MIRRORED, ONES, REPEAT, RUNS, SHORTEST, SIZES, TABLE, TELL, ask, bytes_of, change, cost, insert,
    last, listed, more, proves, read, remove, stretch, swap, unroll, weights, ways, word,
)

DISTINCT_40 = list(range(26)) + list(range(14))
STRETCHES_40 = 820


def beyond(least, greatest):
    """Numbers just beyond either end of a range, and the farthest that are handed in."""
    return (least - 1, greatest + 1, -GREATEST, GREATEST)


def spoiled(numbers, wrong):
    """The list with the wrong number first, in the middle, and last."""
    for place in {0, len(numbers) // 2, len(numbers) - 1}:
        yield numbers[:place] + [wrong] + numbers[place + 1:]


class OrdinaryCalls(unittest.TestCase):
    def test_at_the_beginning(self):
        self.assertEqual(ask(TELL), [[0]])
        self.assertEqual(ask(RUNS), [[0]])
        self.assertEqual(ask(cost("a")), [[0, 0, 1, 0, 0]])
        self.assertEqual(ask(cost("(ab)2<c>")), [[0, 0, 6, 0, 1]])

    def test_weights_hold_from_then_on(self):
        text = "(ab)3<c>"
        self.assertEqual(
            ask(cost(text), weights(2, 3, 4, 5), cost(text), read(text), weights(9, 0, 0, 0), cost(text), SHORTEST),
            [[0, 0, 6, 0, 1], [0], [0, 0, 18, 0, 1], [0, 0, 8, 18], [0], [0, 0, 27, 1, 1],
             [0, 27, 1] + bytes_of("(ab)3c2")])

    def test_each_weight_weighs_its_own(self):
        text = "(a2b)3<[c]>"
        for place, count in enumerate((3, 2, 1, 2)):
            dear = list(ONES)
            dear[place] = 7
            self.assertEqual(last(weights(*dear), cost(text))[2], 8 + 6 * count)

    def test_word_is_the_row(self):
        self.assertEqual(ask(word("abc"), TELL, word("z"), TELL), [[0], [0, 0, 1, 2], [0], [0, 25]])

    def test_read_is_the_row(self):
        self.assertEqual(ask(word("abc"), read("(ab)2c"), TELL, read("z"), TELL),
                         [[0], [0, 0, 5, 5], [0, 0, 1, 0, 1, 2], [0, 0, 1, 1], [0, 25]])

    def test_shortest(self):
        for row, costs, depth, text in (
                ("a", 1, 0, "a"), ("ab", 2, 0, "ab"), ("aa", 2, 0, "a2"), ("aba", 3, 1, "[ab]"),
                ("abab", 4, 1, "(ab)2"), ("abba", 3, 1, "<ab>"), ("abcba", 4, 1, "[abc]"),
                ("ababab", 4, 1, "(ab)3"), ("aaaab", 3, 0, "a4b"), ("aabbaabb", 6, 1, "(aab2)2"),
                ("abcabcabcd", 6, 1, "(abc)3d"), ("ababcbaba", 6, 1, "[ababc]"), ("abacabad", 6, 1, "[abac]d"),
                ("abababcabababc", 7, 2, "((ab)3c)2"),
                ("z" * 40, 2, 0, "z40")):
            with self.subTest(row=row):
                self.assertEqual(ask(word(row), SHORTEST)[1], [0, costs, depth] + bytes_of(text))

    def test_cost(self):
        self.assertEqual(
            ask(word("abab"), cost("abab"), cost("(ab)2"), cost("<ab>"), cost("(ab"), cost("a99"), TELL),
            [[0], [0, 0, 4, 1, 0], [0, 0, 4, 1, 1], [0, 0, 3, 0, 1], [0, 1, 3], [0, 3, 3], [0, 0, 1, 0, 1]])

    def test_stretch(self):
        self.assertEqual(
            ask(word("abbaccc"), stretch(0, 1), stretch(1, 2), stretch(0, 4), stretch(4, 3), stretch(3, 2),
                stretch(6, 1), stretch(0, 7), TELL),
            [[0], [0, 1, 97], [0, 2] + bytes_of("b2"), [0, 3] + bytes_of("<ab>"), [0, 2] + bytes_of("c3"),
             [0, 2] + bytes_of("ac"), [0, 1, 99], [0, 5] + bytes_of("<ab>c3"), [0, 0, 1, 1, 0, 2, 2, 2]])

    def test_table(self):
        self.assertEqual(
            ask(word("abba"), TABLE, weights(2, 3, 0, 1), TABLE, TELL),
            [[0], [0, 1, 1, 1, 1, 2, 2, 2, 3, 3, 3], [0], [0, 2, 2, 2, 2, 4, 3, 4, 5, 5, 5], [0, 0, 1, 1, 0]])

    def test_proves(self):
        right = [1, 1, 1, 1, 2, 2, 2, 3, 3, 3]
        self.assertEqual(
            ask(word("abba"), proves(right), proves(right[:-1] + [4]), proves([2] + right[1:]), proves([0] * 10),
                proves([0] + right[1:]), TELL),
            [[0], [0, 1], [0, 0], [0, 0], [0, 1], [0, 0], [0, 0, 1, 1, 0]])

    def test_proves_by_the_weights_that_hold(self):
        self.assertEqual(
            ask(word("ab"), proves([2, 2, 4]), weights(2, 1, 1, 1), proves([2, 2, 4]), proves([2, 2, 5])),
            [[0], [0, 0], [0], [0, 1], [0, 0]])

    def test_ways(self):
        self.assertEqual(
            ask(word("abaaaa"), ways(0, 1), ways(0, 2), ways(0, 3), ways(2, 4), TELL),
            [[0], [0, 0, 0, 1], [0, 4, 1, 2], [0, 3, 0, 3, 4, 1, 3, 4, 2, 3],
             [0, 0, 0, 2, 1, 1, 3, 1, 2, 4, 2, 0, 3, 4, 1, 3, 4, 2, 4, 4, 3, 3], [0, 0, 1, 0, 0, 0, 0]])

    def test_runs(self):
        for row, expected in (("a", [0, 1]), ("aab", [0, 2, 1, 1]), ("abba", [0, 1, 1, 2, 0, 1]),
                              ("zzzz", [25, 4]), ("abab", [0, 1, 1, 1, 0, 1, 1, 1]), ("a" * 40, [0, 40]),
                              ("a" * 39 + "b", [0, 39, 1, 1])):
            self.assertEqual(ask(word(row), RUNS, TELL)[1], [0] + expected, row)

    def test_calls_that_only_ask_leave_all(self):
        asked = (TELL, SHORTEST, cost("abc"), cost("(("), stretch(1, 3), TABLE, proves([0] * 15), ways(0, 5), RUNS,
                 REPEAT, MIRRORED, unroll("abc"), unroll("(("), SIZES)
        seen = ask(weights(3, 1, 2, 1), word("aabaa"), *asked, *asked)[2:]
        self.assertEqual(seen[:len(asked)], seen[len(asked):])
        for call in asked:
            self.assertEqual(ask(weights(3, 1, 2, 1), word("aabaa"), call, TELL, cost("(a)2<b>"))[3:],
                             [[0, 0, 0, 1, 0, 0], [0, 0, 10, 0, 1]])


class Edges(unittest.TestCase):
    def test_rows_of_one_stitch(self):
        for stitch in (0, 25):
            self.assertEqual(
                ask(word([stitch]), TELL, SHORTEST, stretch(0, 1), TABLE, proves([1]), proves([2]), ways(0, 1), RUNS),
                [[0], [0, stitch], [0, 1, 0, 97 + stitch], [0, 1, 97 + stitch], [0, 1], [0, 1], [0, 0], [0, 0, 0, 1],
                 [0, stitch, 1]])

    def test_rows_of_40_stitches(self):
        table = [n for n in range(1, 41) for _ in range(41 - n)]
        text = bytes_of("abcdefghijklmnopqrstuvwxyzabcdefghijklmn")
        found = ask(word(DISTINCT_40), TELL, SHORTEST, stretch(0, 40), stretch(39, 1), TABLE, proves(table),
                    proves(table[:-1] + [41]), ways(0, 40), RUNS)
        self.assertEqual(found[1:], [
            [0] + DISTINCT_40, [0, 40, 0] + text, [0, 40] + text, [0, 1, 110], [0] + table, [0, 1], [0, 0],
            [0] + [number for k in range(1, 40) for number in (4, k, 40)],
            [0] + [number for stitch in DISTINCT_40 for number in (stitch, 1)]])

    def test_40_like_stitches(self):
        found = ask(word([7] * 40), SHORTEST, TABLE, ways(0, 40), RUNS)
        self.assertEqual(found[1], [0, 2, 0] + bytes_of("h40"))
        self.assertEqual(found[2], [0] + [1] * 40 + [2] * 780)
        periods = [number for p in (1, 2, 4, 5, 8, 10, 20) for number in (1, p, 3 if p == 1 else 4)]
        splits = [number for k in range(1, 40) for number in (4, k, 3 if k in (1, 39) else 4)]
        self.assertEqual(found[3], [0, 0, 0, 2] + periods + [2, 0, 3] + splits)
        self.assertEqual(found[4], [0, 7, 40])

    def test_the_least_and_the_greatest_weights(self):
        text = "(ab2)3<c>"
        self.assertEqual(ask(weights(1, 0, 0, 0), cost(text), weights(9, 9, 9, 9), cost(text), weights(9, 0, 9, 0),
                             cost(text), weights(1, 9, 0, 9), cost(text)),
                         [[0], [0, 0, 3, 0, 1], [0], [0, 0, 63, 0, 1], [0], [0, 0, 36, 0, 1], [0], [0, 0, 30, 0, 1]])

    def test_the_greatest_cost(self):
        self.assertEqual(ask(weights(9, 9, 9, 9), word(DISTINCT_40), SHORTEST)[2][:3], [0, 360, 0])

    def test_numbers_of_told_tables_from_0_to_1000(self):
        self.assertEqual(ask(word("ab"), proves([0, 0, 0]), proves([1000] * 3), proves([0, 0, 1000])),
                         [[0], [0, 1], [0, 0], [0, 0]])

    def test_bytes_from_0_to_255(self):
        self.assertEqual(ask(read([0]), read([255]), cost([97, 0]), cost([97, 255])),
                         [[0, 1, 0], [0, 1, 0], [0, 1, 1], [0, 1, 1]])

    def test_places_and_lengths_at_their_ends(self):
        for call in (stretch, ways):
            self.assertEqual([answer[0] for answer in ask(word(DISTINCT_40), call(0, 1), call(0, 40), call(39, 1))],
                             [0, 0, 0, 0])


def refused_calls():
    """Rows and calls with the refusal that is answered; None stands for the empty row."""
    full = DISTINCT_40
    for row in (None, "abcab", full):
        for place, least in enumerate((1, 0, 0, 0)):
            for wrong in beyond(least, 9):
                values = [2, 2, 2, 2]
                values[place] = wrong
                yield row, weights(*values), -1
        yield row, word([]), -1
        yield row, word([0] * 41), -1
        yield row, word([0] * 900), -1
        for wrong in beyond(0, 25):
            for stitches in ([3], [3, 4, 5], full):
                for values in spoiled(stitches, wrong):
                    yield row, word(values), -1
        for number in (2, 5, 17, 18):
            yield row, listed(number, [97] * 401), -1
            yield row, listed(number, [0] * 900), -1
            for wrong in beyond(0, 255):
                for text in ("a", "(ab)2", "!" * 400):
                    for values in spoiled(bytes_of(text), wrong):
                        yield row, listed(number, values), -1
        for call in (stretch, ways):
            for wrong in beyond(0, 39):
                for n in (1, 40, 0, 41):
                    yield row, call(wrong, n), -1
            for wrong in beyond(1, 40):
                for i in (0, 39, -1, 40):
                    yield row, call(i, wrong), -1
        # Whether there is such a place, or room for one stitch more, does not count beside a wrong number.
        for call, last_place in ((change, 39), (insert, 40)):
            for wrong in beyond(0, last_place):
                for c in (0, 25, -1, 26):
                    yield row, call(wrong, c), -1
            for wrong in beyond(0, 25):
                for i in (0, 3, last_place, -1, last_place + 1):
                    yield row, call(i, wrong), -1
        for wrong in beyond(0, 39):
            yield row, remove(wrong), -1
        for wrong in beyond(0, 25):
            for right in (0, 1, 25, wrong):
                yield row, swap(wrong, right), -1
                yield row, swap(right, wrong), -1
        yield row, proves([0] * 821), -1
        yield row, proves([0] * 900), -1
        for wrong in beyond(0, 1000):
            for count in (1, 15, 14, STRETCHES_40):
                for values in spoiled([0] * count, wrong):
                    yield row, proves(values), -1
    for call in (SHORTEST, TABLE, stretch(0, 1), stretch(39, 40), stretch(0, 40), ways(0, 1), ways(39, 40),
                 ways(0, 40), proves([]), proves([0]), proves([0] * STRETCHES_40), MIRRORED):
        yield None, call, -2
    for call in (stretch, ways):
        for i, n in ((0, 6), (5, 1), (4, 2), (39, 1), (0, 40), (39, 40), (1, 5)):
            yield "abcab", call(i, n), -3
        for i, n in ((1, 40), (39, 2), (39, 40), (20, 21)):
            yield full, call(i, n), -3
        yield "a", call(1, 1), -3
        yield "a", call(0, 2), -3
    for row, length in ((None, 0), ("a", 1), ("abcab", 5), (full[:39], 39)):
        for i in {length, length + 1, 20, 39}:
            if length <= i < 40:
                yield row, change(i, 0), -3
                yield row, change(i, 25), -3
                yield row, remove(i), -3
        for i in {length + 1, length + 2, 30, 40}:
            if length < i <= 40:
                yield row, insert(i, 0), -3
                yield row, insert(i, 25), -3
    for i in (0, 1, 20, 39, 40):
        yield full, insert(i, 0), -8
        yield full, insert(i, 25), -8
    for row, text in ((full, "a"), (full, "(ab)20"), (full[:39], "ab"), (full[:39], "a2"), ("a", "a40"), (full, "[a]"),
                      ("abcab", "<a18>"), (full[:20], "(abc)7")):
        yield row, more(text), -8
    for row in (full[:21], full[:30], full[:39], full):
        yield row, DOUBLE, -8
    for row, counts in (("abcab", (0, 1, 14, 16, 819, 820)), ("a", (0, 2, 820)), (full, (0, 1, 819))):
        for count in counts:
            yield row, proves([0] * count), -6


class Refusals(unittest.TestCase):
    def test_refused_with_the_number_nearest_to_0_and_nothing_changed(self):
        look = (TELL, cost("(a2)3<bcd>"), cost("abcab"), RUNS, SHORTEST, SIZES)
        before = {}
        seen = set()
        for row, call, refusal in refused_calls():
            for weighed in (ONES, (2, 3, 4, 5)):
                setup = [weights(*weighed)] + ([word(row)] if row else [])
                key = (str(row), weighed)
                if key not in before:
                    before[key] = ask(*setup, *look)[len(setup):]
                found = ask(*setup, call, *look)[len(setup):]
                if found != [[refusal]] + before[key]:
                    self.fail(f"row {row}, weights {weighed}, call {call}: {found}")
                seen.add((call[0], refusal))
        self.assertEqual(seen, {(0, -1), (1, -1), (2, -1), (4, -2), (5, -1), (6, -1), (6, -2), (6, -3), (7, -2),
                                (8, -1), (8, -2), (8, -6), (9, -1), (9, -2), (9, -3), (12, -2), (13, -1),
                                (13, -3), (14, -1), (14, -3), (14, -8), (15, -1), (15, -3), (17, -1), (18, -1),
                                (18, -8), (19, -8), (20, -1)})

    def test_refused_on_a_list_that_has_just_begun(self):
        for row, call, refusal in refused_calls():
            if row is None:
                self.assertEqual(ask(call, TELL, cost("(a)2<b>"), SIZES),
                                 [[refusal], [0], [0, 0, 5, 0, 1], [0, 1, 1, 1, 1, 0, 0, 0]], call)

    def test_a_wrong_number_is_answered_ahead_of_a_fault(self):
        for number in (2, 5, 17, 18):
            self.assertEqual(ask(listed(number, [33, 256]), listed(number, [33] * 401), listed(number, [33, -1])),
                             [[-1], [-1], [-1]])

    def test_after_a_refusal_calls_go_on(self):
        self.assertEqual(
            ask(SHORTEST, word("ab"), word([26]), SHORTEST, weights(0, 1, 1, 1), TABLE, stretch(1, 2), stretch(1, 1),
                proves([1, 1]), proves([1, 1, 2]), ways(2, 1), ways(0, 2)),
            [[-2], [0], [-1], [0, 2, 0, 97, 98], [-1], [0, 1, 1, 2], [-3], [0, 1, 98], [-6], [0, 1], [-3],
             [0, 4, 1, 2]])
        self.assertEqual(
            ask(MIRRORED, remove(0), change(0, 1), insert(1, 3), insert(0, 3), remove(1), change(1, 4), change(0, 26),
                swap(3, 26), TELL, more("b40"), more("b39"), insert(40, 0), DOUBLE, more("c"), remove(39), insert(39, 0),
                RUNS),
            [[-2], [-3], [-3], [-3], [0, 1], [-3], [-3], [-1], [-1], [0, 3], [-8], [0, 0, 40], [-8], [-8], [-8],
             [0, 1], [0, 40], [0, 3, 1, 1, 38, 0, 1]])

    def test_several_due(self):
        full = word(DISTINCT_40)
        for calls, refusal in (
                # -1 and -3
                ([change(39, 26)], -1), ([change(40, 0)], -1), ([insert(40, 26)], -1), ([insert(41, 0)], -1),
                ([remove(40)], -1), ([word("a"), change(1, -1)], -1), ([word("a"), insert(2, -1)], -1),
                # -1 and -8
                ([full, insert(0, 26)], -1), ([full, insert(40, -1)], -1), ([full, insert(-1, 0)], -1),
                ([full, more([256])], -1), ([full, more([97] * 401)], -1),
                # -1, -3 and -8: a place beyond 40 is none of a row of 40
                ([full, insert(41, 0)], -1), ([full, insert(41, 26)], -1), ([full, insert(GREATEST, GREATEST)], -1)):
            self.assertEqual(last(*calls), [refusal], calls)


if __name__ == "__main__":
    unittest.main()
