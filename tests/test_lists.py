"""Lists of up to 60 calls of all kinds, answered number by number as by a second reading of the document."""

import unittest

from knittext.pattern import answers
from tests.helper import (
    GREATEST, LISTS, RANGES, SOME_WEIGHTS, TELL, Jumps, SecondPattern, ask, bytes_of, flat, listed, made_up_text,
    reference_table, weights, word,
)

ALL_NUMBERS = tuple(range(22))
STITCHES = (0, 0, 0, 1, 1, 2, 25)


def wrong_number(jumps, least, greatest):
    return jumps.one_of((least - 1, greatest + 1, -GREATEST, GREATEST))


def whole_number(jumps, least, greatest, length):
    """One within the range, most often where a row of that length has a place."""
    if jumps.below(20) == 0:
        return wrong_number(jumps, least, greatest)
    if jumps.below(4) == 0:
        return jumps.one_of((least, greatest, least + jumps.below(greatest - least + 1)))
    return min(greatest, max(least, jumps.below(length + 2)))


def text_for(jumps):
    text = made_up_text(jumps, "abz", jumps.below(4))[:400]
    if jumps.below(5) == 0:
        place = jumps.below(len(text))
        return text[:place] + jumps.one_of("()<>[]019!") + text[place + 1:]
    return text


def list_for(jumps, number, second):
    if number == 1:
        values = [jumps.one_of(STITCHES) for _ in range(jumps.one_of((0, 1, 2, 3, 5, 8, 13, 19, 20, 21, 39, 40, 41)))]
    elif number == 8:
        values = reference_table(second.row, second.weighed)
        for _ in range(jumps.below(3)):
            if values:
                place = jumps.below(len(values))
                values[place] = max(0, values[place] + jumps.below(4) - 2)
        if jumps.below(10) == 0:
            values = values[:-1] if jumps.below(2) else values + [0]
    else:
        values = bytes_of(text_for(jumps))
    if values and jumps.below(20) == 0:
        values[jumps.below(len(values))] = wrong_number(jumps, *LISTS[number][2:])
    return listed(number, values)


def made_up_call(jumps, number, second):
    if number in LISTS:
        return list_for(jumps, number, second)
    if number == 20:
        return [20, jumps.one_of(STITCHES + (26,)), jumps.one_of(STITCHES + (-1,))]
    length = len(second.row)
    return [number] + [whole_number(jumps, least, greatest, length) for least, greatest in RANGES.get(number, ())]


class AllCallsTogether(unittest.TestCase):
    def compare(self, calls, expected):
        found = ask(*calls)
        for place, (one, other) in enumerate(zip(found, expected)):
            if one != other:
                self.fail(f"call {calls[place]}, behind {calls[:place]}: {one}, not {other}")
        handed = flat(calls)
        kept = list(handed)
        given = answers(handed)
        self.assertEqual(handed, kept)
        self.assertEqual(given, flat([len(answer)] + answer for answer in expected))

    def test_lists_of_60_calls_with_every_call_among_them(self):
        jumps = Jumps(61)
        seen = set()
        for _ in range(120):
            second = SecondPattern()
            calls, expected = [], []
            # Calls that lengthen the row come oftener than the others: rows are to be long as well as short.
            numbers = list(ALL_NUMBERS) + [jumps.one_of(ALL_NUMBERS + (14, 18, 19, 19)) for _ in range(38)]
            while numbers:
                number = numbers.pop(jumps.below(len(numbers)))
                calls.append(made_up_call(jumps, number, second))
                expected.append(second.answer(calls[-1]))
                seen.add((number, expected[-1][0]))
            self.assertEqual(len(calls), 60)
            self.compare(calls, expected)
        refusals = {0: (-1,), 1: (-1,), 2: (-1,), 4: (-2,), 5: (-1,), 6: (-1, -2, -3), 7: (-2,), 8: (-1, -2, -6),
                    9: (-1, -2, -3), 12: (-2,), 13: (-1, -3), 14: (-1, -3, -8), 15: (-1, -3), 17: (-1,), 18: (-1, -8),
                    19: (-8,), 20: (-1,)}
        self.assertEqual(seen, {(number, first) for number in ALL_NUMBERS for first in (0, *refusals.get(number, ()))})

    def test_short_lists(self):
        jumps = Jumps(67)
        for _ in range(1500):
            second = SecondPattern()
            calls, expected = [], []
            for _ in range(1 + jumps.below(5)):
                calls.append(made_up_call(jumps, jumps.below(22), second))
                expected.append(second.answer(calls[-1]))
            self.compare(calls, expected)

    def test_each_call_behind_each_other(self):
        jumps = Jumps(71)
        for first in ALL_NUMBERS:
            for then in ALL_NUMBERS:
                for row in ("", "a", "abba", "ab" * 10, "abc" * 7, "aab" * 13, "ab" * 20):
                    second = SecondPattern()
                    calls = [weights(*jumps.one_of(SOME_WEIGHTS))] + ([word(row)] if row else [])
                    expected = [second.answer(call) for call in calls]
                    for number in (first, then):
                        calls.append(made_up_call(jumps, number, second))
                        expected.append(second.answer(calls[-1]))
                    calls += [TELL, [21]]
                    expected += [second.answer(call) for call in calls[-2:]]
                    self.compare(calls, expected)


if __name__ == "__main__":
    unittest.main()
