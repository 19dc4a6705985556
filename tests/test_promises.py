"""Promises 1 to 3 over many rows and weights, with searches that know nothing of ways."""

import itertools
import unittest

from tests.helper import (
    DOUBLE, REVERSE, SHORTEST, SOME_WEIGHTS, TABLE, TELL, Jumps, ask, change, cheapest_of_all, cost, insert, last,
    letters_of, made_up_rows, made_up_text, more, proves, read, remove, stitches_of, stretch, stretches, swap,
    text_cost, text_of, unroll, weights, word,
)


def some_rows():
    """Rows of all lengths: short ones all, long ones made up of repeats and mirrors, and ones that jump about."""
    jumps = Jumps(1)
    rows = ["".join(row) for count in range(1, 6) for row in itertools.product("ab", repeat=count)]
    rows += [row for row, _ in made_up_rows(jumps, 60)]
    rows += ["".join(jumps.one_of("ab") for _ in range(length)) for length in range(6, 41, 2)]
    rows += ["".join(jumps.one_of("abcdefghijklmnopqrstuvwxyz") for _ in range(length)) for length in (7, 23, 40)]
    rows += ["z" * length for length in (1, 2, 39, 40)]
    return rows


class FirstPromise(unittest.TestCase):
    """The told text tells the row and costs what the table says."""

    def test_shortest(self):
        for place, row in enumerate(some_rows()):
            for weighed in (SOME_WEIGHTS[place % len(SOME_WEIGHTS)], SOME_WEIGHTS[(place + 5) % len(SOME_WEIGHTS)]):
                _, _, table, told = ask(weights(*weighed), word(row), TABLE, SHORTEST)
                text = told[3:]
                with self.subTest(row=row, weighed=weighed):
                    self.assertEqual(told[:2], [0, table[-1]])
                    self.assertEqual(ask(weights(*weighed), word(row), cost(text), read(text), TELL)[2:], [
                        [0, 0, table[-1], 1, told[2]], [0, 0, len(row), table[-1]], [0] + stitches_of(row)])

    def test_stretch(self):
        for place, row in enumerate(some_rows()):
            weighed = SOME_WEIGHTS[place % len(SOME_WEIGHTS)]
            table = ask(weights(*weighed), word(row), TABLE)[2][1:]
            asked = list(zip(stretches(row), table))
            asked = asked[::1 + len(asked) // 60] + asked[-1:]
            for at in range(0, len(asked), 50):
                some = asked[at:at + 50]
                told = ask(weights(*weighed), word(row), *[stretch(i, n) for (i, n), _ in some])[2:]
                for ((i, n), number), answer in zip(some, told):
                    with self.subTest(row=row, weighed=weighed, i=i, n=n):
                        self.assertEqual(answer[:2], [0, number])
                        self.assertEqual(
                            ask(weights(*weighed), word(row[i:i + n]), cost(answer[2:]), read(answer[2:]), TELL)[2:],
                            [[0, 0, number, 1, depth_by_signs(answer[2:])], [0, 0, n, number],
                             [0] + stitches_of(row[i:i + n])])


def depth_by_signs(text):
    deep = most = 0
    for sign in text_of(text):
        deep += (sign in "(<[") - (sign in ")>]")
        most = max(most, deep)
    return most


class SecondPromise(unittest.TestCase):
    """No text that tells the row costs less; nor less than any right table says."""

    def costs_of(self, rows, weighed):
        found = {}
        for at in range(0, len(rows), 29):
            some = rows[at:at + 29]
            calls = [call for row in some for call in (word(row), SHORTEST)]
            for row, answer in zip(some, ask(weights(*weighed), *calls)[2::2]):
                found[row] = answer[1]
        return found

    def test_the_cheapest_of_all_texts(self):
        for weighed in SOME_WEIGHTS:
            for letters, most in (("a", 12), ("ab", 7), ("abc", 5)):
                least = cheapest_of_all(letters, most, weighed)
                self.assertEqual(len(least), sum(len(letters) ** n for n in range(1, most + 1)))
                self.assertEqual(self.costs_of(list(least), weighed), least)

    def test_every_text_of_few_signs(self):
        told = []
        texts = ["".join(signs) for count in range(1, 7) for signs in itertools.product("ab23()<>[]", repeat=count)
                 if signs[0] in "ab(<[" and signs[-1] in "ab23>]"]
        for at in range(0, len(texts), 30):
            some = texts[at:at + 30]
            answered = ask(*[call for text in some for call in (read(text), TELL)])
            for text, answer, row in zip(some, answered[::2], answered[1::2]):
                if answer[1] == 0:
                    told.append((text, "".join("abc"[stitch] for stitch in row[1:])))
        self.assertGreater(len(told), 3000)
        for weighed in SOME_WEIGHTS:
            least = self.costs_of(sorted({row for _, row in told}), weighed)
            for text, row in told:
                self.assertGreaterEqual(text_cost(text, weighed), least[row], (text, weighed))

    def test_texts_of_long_rows(self):
        for row, text in made_up_rows(Jumps(21), 150):
            for weighed in SOME_WEIGHTS[::3]:
                answered = ask(weights(*weighed), word(row), cost(text), SHORTEST)
                self.assertEqual(answered[2][3], 1)
                self.assertLessEqual(answered[3][1], answered[2][2], (row, text, weighed))

    def test_no_right_table_says_more(self):
        jumps = Jumps(31)
        right = 0
        for row in [row for row, _ in made_up_rows(jumps, 40) if len(row) <= 10] + ["ab", "aa", "aba", "abcab"]:
            for weighed in SOME_WEIGHTS[:6]:
                table = ask(weights(*weighed), word(row), TABLE)[2][1:]
                for _ in range(20):
                    other = [max(0, number + jumps.below(3) - jumps.below(3)) for number in table[:jumps.below(4)]]
                    other += table[len(other):-1] + [max(0, table[-1] + jumps.below(5) - 2)]
                    if ask(weights(*weighed), word(row), proves(other))[2] == [0, 1]:
                        right += 1
                        self.assertLessEqual(other[-1], table[-1])
        self.assertGreater(right, 100)


class ThirdPromise(unittest.TestCase):
    """The told table is right."""

    def test_the_table_handed_back(self):
        for row in some_rows():
            for weighed in SOME_WEIGHTS[::4]:
                table = ask(weights(*weighed), word(row), TABLE)[2][1:]
                self.assertEqual(len(table), len(row) * (len(row) + 1) // 2)
                self.assertEqual(ask(weights(*weighed), word(row), proves(table))[2], [0, 1], (row, weighed))

    def test_with_one_number_raised(self):
        for place, row in enumerate(some_rows()):
            weighed = SOME_WEIGHTS[place % len(SOME_WEIGHTS)]
            table = ask(weights(*weighed), word(row), TABLE)[2][1:]
            places = sorted({0, len(table) - 1} | set(range(place % 7, len(table), 1 + len(table) // 16)))
            for at in range(0, len(places), 17):
                raised = [table[:p] + [table[p] + 1] + table[p + 1:] for p in places[at:at + 17]]
                answered = ask(weights(*weighed), word(row), *[proves(other) for other in raised])[2:]
                self.assertEqual(answered, [[0, 0]] * len(raised), (row, weighed))

    def test_each_number_raised(self):
        for row in ("abba", "ababab", "aabaab", "abcba"):
            table = ask(word(row), TABLE)[1][1:]
            for p in range(len(table)):
                self.assertEqual(ask(word(row), proves(table[:p] + [table[p] + 1] + table[p + 1:]))[1], [0, 0])


def some_changes(jumps):
    """Calls that make a row out of the empty one; some of them may be refused."""
    calls = [more(made_up_text(jumps, "abc", 2))]
    for _ in range(1 + jumps.below(8)):
        i, c = jumps.below(20), jumps.below(4)
        calls.append(jumps.one_of((change(i, c), insert(i, c), remove(i), REVERSE, DOUBLE, swap(c, jumps.below(4)),
                                   more(made_up_text(jumps, "ab", 2)), insert(0, c), change(0, c), remove(0))))
    return calls


class RowsThatOtherCallsHaveMade(unittest.TestCase):
    """Promises 1 to 3 once more, behind the calls that change a row."""

    def made(self):
        """Weights, the calls that made a row, and the row: not the empty one."""
        jumps = Jumps(51)
        seen = 0
        for place in range(250):
            weighed = SOME_WEIGHTS[place % len(SOME_WEIGHTS)]
            calls = [weights(*weighed)] + some_changes(jumps)
            row = last(*calls, TELL)[1:]
            if row:
                seen += 1
                yield weighed, calls, row
        self.assertGreater(seen, 200)

    def test_the_told_text_tells_the_row_and_costs_what_the_table_says(self):
        for weighed, calls, row in self.made():
            table, told = ask(*calls, TABLE, SHORTEST)[-2:]
            text = told[3:]
            expected = [[0, 0, table[-1], 1, depth_by_signs(text)], [0, 0] + row, [0, 0, len(row), table[-1]], [0] + row]
            self.assertEqual(told[:3], [0, table[-1], depth_by_signs(text)], calls)
            self.assertEqual(ask(*calls, cost(text), unroll(text), read(text), TELL)[-4:], expected, calls)

    def test_told_as_if_the_row_had_been_handed_in(self):
        for weighed, calls, row in self.made():
            self.assertEqual(ask(*calls, TABLE, SHORTEST)[-2:], ask(weights(*weighed), word(row), TABLE, SHORTEST)[2:])

    def test_no_text_costs_less(self):
        least = {weighed: cheapest_of_all("abcd", 5, weighed) for weighed in SOME_WEIGHTS}
        compared = 0
        for weighed, calls, row in self.made():
            if len(row) <= 5:
                compared += 1
                self.assertEqual(last(*calls, SHORTEST)[1], least[weighed][letters_of(row)], calls)
        self.assertGreater(compared, 20)

    def test_the_text_that_was_put_behind_costs_no_less(self):
        jumps = Jumps(53)
        compared = 0
        for place in range(100):
            weighed = SOME_WEIGHTS[place % len(SOME_WEIGHTS)]
            text = made_up_text(jumps, "abc", 2)
            for whole, calls in ((text, [more(text)]), (text + "z", [more(text), more("z")]),
                                 ("(" + text + ")2", [more(text), DOUBLE]), ("a" + text, [more(text), insert(0, 0)])):
                found = ask(weights(*weighed), *calls, cost(whole), SHORTEST)
                if found[-2][1] == 0:
                    compared += 1
                    self.assertEqual(found[-2][3], 1, whole)
                    self.assertLessEqual(found[-1][1], found[-2][2], (whole, weighed))
        self.assertGreater(compared, 250)

    def test_the_told_table_is_right_and_none_that_says_more(self):
        for weighed, calls, row in self.made():
            table = last(*calls, TABLE)[1:]
            raised = [table[:p] + [table[p] + 1] + table[p + 1:] for p in range(0, len(table), 1 + len(table) // 8)]
            raised.append(table[:-1] + [table[-1] + 1])
            found = ask(*calls, proves(table), *[proves(other) for other in raised])
            self.assertEqual(found[len(calls):], [[0, 1]] + [[0, 0]] * len(raised), calls)


if __name__ == "__main__":
    unittest.main()
