"""Ways in their order, the told text by the first of those that cost the least, tables and who judges them."""

import itertools
import unittest

from tests.helper import (
    ONES, SHORTEST, SOME_WEIGHTS, TABLE, Jumps, ask, bytes_of, flat, judged_right, last, least_cost, made_up_rows,
    proves, reference_table, reference_text, reference_ways, stretch, stretches, text_of, ways, weights, word,
)

# Row, weights, its ways, told text: where several ways cost the least.
TIES = (
    # a letter and a number as dear as a mirror and two letters
    ("aa", ONES, [(0, 0, 2), (1, 1, 3), (2, 0, 2), (4, 1, 2)], "a2"),
    ("aa", (1, 2, 1, 1), [(0, 0, 3), (1, 1, 4), (2, 0, 2), (4, 1, 2)], "<a>"),
    ("aa", (1, 2, 0, 0), [(0, 0, 3), (1, 1, 3), (2, 0, 1), (4, 1, 2)], "<a>"),
    ("aa", (1, 2, 1, 2), [(0, 0, 3), (1, 1, 4), (2, 0, 3), (4, 1, 2)], "aa"),
    ("aa", (1, 0, 0, 0), [(0, 0, 1), (1, 1, 1), (2, 0, 1), (4, 1, 2)], "a2"),
    ("aaa", (1, 1, 0, 0), [(0, 0, 2), (1, 1, 2), (3, 0, 1), (4, 1, 2), (4, 2, 2)], "[<a>]"),
    # a period as dear as a split
    ("abab", ONES, [(1, 2, 4), (4, 1, 4), (4, 2, 4), (4, 3, 4)], "(ab)2"),
    ("abab", (1, 2, 1, 1), [(1, 2, 5), (4, 1, 4), (4, 2, 4), (4, 3, 4)], "a[ba]"),
    # one period as dear as another
    ("abababab", (1, 0, 0, 9), [(1, 2, 2), (1, 4, 2), (4, 1, 4), (4, 2, 4), (4, 3, 6), (4, 4, 4), (4, 5, 6), (4, 6, 4),
                                (4, 7, 4)], "(ab)4"),
    # a period as dear as a mirror
    ("abbaabba", (1, 1, 0, 1), None, "(<ab>)2"),
    ("abbaabba", (1, 1, 1, 1), None, "<<ab>>"),
    # an odd mirror as dear as a split
    ("aba", ONES, [(3, 0, 3), (4, 1, 3), (4, 2, 3)], "[ab]"),
    ("aba", (1, 1, 1, 2), [(3, 0, 4), (4, 1, 3), (4, 2, 3)], "aba"),
    # of splits, the first, and so on within its two sides
    ("ab", ONES, [(4, 1, 2)], "ab"),
    ("aab", ONES, [(4, 1, 3), (4, 2, 3)], "aab"),
    ("aaab", ONES, [(4, 1, 4), (4, 2, 4), (4, 3, 3)], "a3b"),
    ("baa", ONES, [(4, 1, 3), (4, 2, 3)], "ba2"),
    ("aabb", ONES, [(4, 1, 4), (4, 2, 4), (4, 3, 4)], "aab2"),
    ("abaab", ONES, [(4, 1, 4), (4, 2, 5), (4, 3, 5), (4, 4, 5)], "a<ba>"),
)


class Ties(unittest.TestCase):
    def test_told_by_the_first_of_the_ways_that_cost_the_least(self):
        for row, weighed, found, text in TIES:
            with self.subTest(row=row, weighed=weighed):
                answered = ask(weights(*weighed), word(row), SHORTEST, stretch(0, len(row)), ways(0, len(row)))
                self.assertEqual(text_of(answered[2][3:]), text)
                self.assertEqual(text_of(answered[3][2:]), text)
                if found is not None:
                    self.assertEqual(answered[4], [0] + flat(found))

    def test_the_same_within_a_longer_row(self):
        for row, weighed, found, text in TIES:
            with self.subTest(row=row, weighed=weighed):
                answered = ask(weights(*weighed), word("xy" + row + "z"), stretch(2, len(row)), ways(2, len(row)))
                self.assertEqual(text_of(answered[2][2:]), text)
                if found is not None:
                    self.assertEqual(answered[3], [0] + flat(found))

    def test_depth_of_the_told_text(self):
        for row, weighed, text, depth in (("a" * 40, (1, 9, 0, 0), "<<<[[<a>]]>>>", 6),
                                          ("a" * 39, (1, 9, 0, 0), "[<<[[<a>]]>>]", 6),
                                          ("a" * 2, (1, 9, 0, 0), "<a>", 1), ("a" * 40, ONES, "a40", 0)):
            answered = last(weights(*weighed), word(row), SHORTEST)
            self.assertEqual((answered[2], text_of(answered[3:])), (depth, text))


class AgainstASecondReading(unittest.TestCase):
    def compare(self, row, weighed):
        """The table and the told text, and for stretches, 58 at most, the ways and the told texts."""
        answered = ask(weights(*weighed), word(row), TABLE, SHORTEST)
        self.assertEqual(answered[2], [0] + reference_table(row, weighed), (row, weighed))
        self.assertEqual(text_of(answered[3][3:]), reference_text(row, weighed), (row, weighed))
        asked = stretches(row)
        asked = asked[::-1 - len(asked) // 58]
        for at in range(0, len(asked), 29):
            some = asked[at:at + 29]
            calls = [call(i, n) for i, n in some for call in (stretch, ways)]
            expected = []
            for i, n in some:
                part = row[i:i + n]
                expected.append([0, least_cost(part, weighed)] + bytes_of(reference_text(part, weighed)))
                expected.append([0] + flat(reference_ways(part, weighed)))
            self.assertEqual(ask(weights(*weighed), word(row), *calls)[2:], expected, (row, weighed))

    def test_all_short_rows_of_two_letters(self):
        for weighed in SOME_WEIGHTS:
            for count in range(1, 7):
                for row in itertools.product("ab", repeat=count):
                    self.compare("".join(row), weighed)

    def test_told_texts_of_longer_rows_of_two_letters(self):
        rows = ["".join(row) for count in (8, 9) for row in itertools.product("ab", repeat=count)]
        for weighed in SOME_WEIGHTS:
            for at in range(0, len(rows), 29):
                some = rows[at:at + 29]
                calls = [call for row in some for call in (word(row), SHORTEST)]
                found = [text_of(answer[3:]) for answer in ask(weights(*weighed), *calls)[2::2]]
                self.assertEqual(found, [reference_text(row, weighed) for row in some])

    def test_rows_made_up_of_repeats_and_mirrors(self):
        jumps = Jumps(3)
        for place, (row, _) in enumerate(made_up_rows(jumps, 60)):
            self.compare(row, SOME_WEIGHTS[place % len(SOME_WEIGHTS)])

    def test_rows_of_40_stitches(self):
        for row in ("a" * 40, "ab" * 20, "abcdefghij" * 4, "a" * 20 + "b" * 20, "aab" * 13 + "c",
                    "abcdefghijklmnopqrst" + "tsrqponmlkjihgfedcba"):
            for weighed in (ONES, (2, 1, 0, 0), (1, 9, 0, 1)):
                self.compare(row, weighed)


class ToldTables(unittest.TestCase):
    def judge(self, row, weighed, tables):
        """What proves says of each table, beside what the document's words say of it."""
        judged = []
        for at in range(0, len(tables), 18):
            some = tables[at:at + 18]
            found = [answer[1] for answer in ask(weights(*weighed), word(row), *[proves(table) for table in some])[2:]]
            self.assertEqual(found, [int(judged_right(row, weighed, table)) for table in some], (row, weighed))
            judged += found
        return judged

    def test_lower_tables(self):
        for row, weighed, numbers, right in (
                ("a", ONES, [0], 1), ("a", ONES, [1], 1), ("a", ONES, [2], 0), ("a", (9, 1, 1, 1), [9], 1),
                ("ab", ONES, [0, 0, 0], 1), ("ab", ONES, [0, 1, 1], 1), ("ab", ONES, [0, 1, 2], 0),
                ("ab", ONES, [1, 1, 0], 1), ("ab", ONES, [0, 0, 1], 0), ("ab", ONES, [1, 1, 3], 0),
                # the same stitches may have unlike numbers
                ("aa", ONES, [0, 1, 1], 1), ("aa", ONES, [1, 0, 1], 1), ("aa", ONES, [1, 0, 2], 0),
                # a mirror looks at the first half, a split at both
                ("abba", ONES, [1, 1, 1, 1, 1, 2, 2, 2, 3, 2], 1), ("abba", ONES, [1, 1, 1, 1, 1, 2, 2, 2, 3, 3], 0),
                ("abba", ONES, [1, 1, 1, 1, 2, 2, 1, 3, 2, 3], 1),
                # a period looks at the first lot
                ("abab", (1, 0, 0, 9), [1, 1, 1, 1, 1, 2, 2, 2, 2, 1], 1),
                ("abab", (1, 0, 0, 9), [1, 1, 1, 1, 1, 2, 2, 2, 2, 2], 0),
                ("abab", (1, 0, 0, 9), [1, 1, 1, 1, 2, 2, 1, 3, 2, 2], 1),
                # all alike, the weights alone count
                ("aaa", (1, 1, 9, 9), [1, 1, 1, 2, 2, 2], 1), ("aaa", (1, 1, 9, 9), [1, 1, 1, 2, 2, 3], 0),
                ("aaa", (1, 1, 9, 9), [1, 1, 1, 3, 2, 2], 0)):
            self.assertEqual(self.judge(row, weighed, [numbers]), [right], (row, weighed, numbers))

    def test_all_small_tables(self):
        for row in ("aa", "ab", "aba", "aaa", "aab", "abc"):
            count = len(row) * (len(row) + 1) // 2
            for weighed in (ONES, (2, 0, 0, 1)):
                tables = [list(table) for table in itertools.product(range(4 if count == 3 else 3), repeat=count)]
                judged = self.judge(row, weighed, tables)
                self.assertIn(1, judged)
                self.assertIn(0, judged)

    def test_tables_with_one_number_changed(self):
        for place, (row, _) in enumerate(made_up_rows(Jumps(5), 40)):
            row = row[:12]
            weighed = SOME_WEIGHTS[place % len(SOME_WEIGHTS)]
            table = reference_table(row, weighed)
            changed = []
            for at in range(len(table)):
                for number in (0, table[at] // 2, table[at] - 1, table[at], table[at] + 1, 1000):
                    changed.append(table[:at] + [max(0, number)] + table[at + 1:])
            self.judge(row, weighed, changed)

    def test_tables_of_cheaper_and_dearer_weights(self):
        for row, _ in made_up_rows(Jumps(9), 12):
            for weighed in SOME_WEIGHTS:
                tables = [reference_table(row, other) for other in SOME_WEIGHTS]
                self.judge(row, weighed, tables + [[number // 2 for number in table] for table in tables])


if __name__ == "__main__":
    unittest.main()
