"""How calls are handed in and answers given back; that nothing is changed or kept."""

import contextlib
import io
import sys
import unittest

from knittext.pattern import answers
from tests.helper import (
    DOUBLE, GREATEST, MIRRORED, REPEAT, REVERSE, RUNS, SHORTEST, SIZES, TABLE, TELL, SecondPattern, ask, bytes_of,
    change, cost, flat, insert, more, proves, read, remove, stretch, swap, unroll, ways, weights, word,
)

ALL = [weights(2, 1, 0, 3), word("abbaabba"), read("(ab)3<c>"), TELL, SHORTEST, cost("(ab)3c2"), stretch(0, 6),
       TABLE, proves([0] * 36), ways(0, 8), RUNS, weights(0, 1, 1, 1), word([]), read("a0"), cost([256]),
       stretch(40, 1), proves([1]), ways(8, 1), REPEAT, MIRRORED, change(3, 25), insert(8, 2), remove(0), REVERSE,
       unroll("(ab)3<c>"), more("[xyz]"), DOUBLE, swap(0, 1), SIZES, change(39, 0), insert(40, 3), remove(-1),
       unroll("a("), more("<a"), more("a39"), DOUBLE, swap(26, 0), TELL, SHORTEST]
ALL_NUMBERS = list(range(22))


class Untouched(list):
    """A list that lets nobody change it, not for a while either."""

    def refuse(self, *given, **named):
        raise AssertionError("what was handed in is changed")

    __setitem__ = __delitem__ = __iadd__ = __imul__ = refuse
    append = extend = insert = pop = remove = clear = sort = reverse = refuse


class Interface(unittest.TestCase):
    def test_answers_as_they_are_given_back(self):
        self.assertEqual(answers([3]), [1, 0])
        self.assertEqual(answers([4]), [1, -2])
        self.assertEqual(answers([1, 2, 0, 1, 3]), [1, 0, 3, 0, 0, 1])
        self.assertEqual(answers([1, 0, 3]), [1, -1, 1, 0])
        self.assertEqual(answers([2, 0]), [3, 0, 1, 0])
        self.assertEqual(answers([0, 1, 1, 1, 1, 2, 2, 97, 50, 10, 4, 9, 0, 1]),
                         [1, 0, 4, 0, 0, 2, 2, 3, 0, 0, 2, 5, 0, 2, 0, 97, 50, 4, 0, 0, 0, 1])
        self.assertEqual(answers([14, 0, 25, 19, 21, 13, 1, 0, 16, 20, 25, 0, 12, 11, 15, 0]),
                         [2, 0, 1, 2, 0, 2, 8, 0, 1, 1, 1, 1, 2, 1, 2, 2, 0, 25, 1, 0, 1, 0, 3, 0, 0, 1, 2, 0, 0, 2, 0,
                          25])
        self.assertEqual(answers([17, 3, 60, 97, 62, 18, 2, 97, 51, 18, 0, 18, 3, 97, 51, 56, 18, 1, 256]),
                         [4, 0, 0, 0, 0, 3, 0, 0, 3, 3, 0, 1, 0, 1, -8, 1, -1])
        self.assertEqual(answers([8, 1, 5, 5, 1, 97, 6, 0, 1, 7]), [1, -2, 5, 0, 0, 1, 0, 0, 1, -2, 1, -2])

    def test_whole_numbers_alone_are_given_back(self):
        given = answers(flat(ALL))
        self.assertIs(type(given), list)
        for number in given:
            self.assertIs(type(number), int)

    def test_what_is_handed_in_stays(self):
        handed = flat(ALL)
        kept = list(handed)
        answers(handed)
        self.assertEqual(handed, kept)
        self.assertEqual(answers(Untouched(handed)), answers(kept))
        self.assertEqual(handed, kept)

    def test_what_is_given_back_is_not_shared(self):
        handed = flat(ALL)
        given = answers(handed)
        kept = list(given)
        given.clear()
        handed.clear()
        self.assertEqual(answers(flat(ALL)), kept)

    def test_asked_twice_answered_the_same(self):
        first = answers(flat(ALL))
        self.assertEqual(answers(flat(ALL)), first)
        answers(flat([weights(9, 9, 9, 9), word("zzz"), SHORTEST]))
        self.assertEqual(answers(flat(ALL)), first)

    def test_nothing_is_kept_from_one_time_to_the_next(self):
        answers(flat([weights(9, 8, 7, 6), word("zzz")]))
        self.assertEqual(ask(TELL, SHORTEST, cost("(a)2<b>")), [[0], [-2], [0, 0, 5, 0, 1]])
        answers(flat([insert(0, 3), more("abc"), DOUBLE, swap(0, 1), REVERSE, change(0, 9)]))
        self.assertEqual(ask(SIZES, REPEAT, MIRRORED, more("a")), [[0, 1, 1, 1, 1, 0, 0, 0], [0, 0], [-2], [0, 0, 1]])

    def test_60_calls(self):
        self.assertEqual(ask(*[word("ab"), TELL] * 30), [[0], [0, 0, 1]] * 30)

    def test_60_calls_with_every_call_among_them(self):
        calls = (ALL * 2)[:60]
        self.assertEqual(sorted({call[0] for call in calls}), ALL_NUMBERS)
        second = SecondPattern()
        self.assertEqual(ask(*calls), [second.answer(call) for call in calls])
        self.assertEqual(ask(*calls), ask(*calls))

    def test_60_times_the_same_call(self):
        for call in ALL:
            second = SecondPattern()
            expected = [second.answer(one) for one in [word("abcab")] + [call] * 59]
            self.assertEqual(ask(word("abcab"), *[call] * 59), expected, call)

    def test_the_greatest_numbers_that_are_handed_in(self):
        for number in (GREATEST, -GREATEST):
            self.assertEqual(
                ask(weights(number, number, number, number), word([number] * 900), read([number] * 900),
                    cost([number] * 900), stretch(number, number), proves([number] * 900), ways(number, number),
                    change(number, number), insert(number, number), remove(number), unroll([number] * 900),
                    more([number] * 900), swap(number, number), TELL, SIZES),
                [[-1]] * 13 + [[0], [0, 1, 1, 1, 1, 0, 0, 0]])

    def test_17000_numbers(self):
        handed = flat([word("ab")] + [proves([0] * 900)] * 18 + [read("a" * 400)] + [TELL])
        handed += flat([read(bytes_of("b" * (17000 - len(handed) - 2)))])
        self.assertEqual(len(handed), 17000)
        self.assertEqual(answers(handed), [1, 0] + [1, -1] * 18 + [3, 0, 3, 400] + [3, 0, 0, 1] + [3, 0, 3, 355])

    def test_prints_nothing(self):
        out, wrong = io.StringIO(), io.StringIO()
        with contextlib.redirect_stdout(out), contextlib.redirect_stderr(wrong):
            answers(flat(ALL))
        self.assertEqual(out.getvalue() + wrong.getvalue(), "")

    def test_calls_lie_only_few_in_one_another(self):
        handed = flat([word([n % 26 for n in range(40)]), SHORTEST, TABLE, ways(0, 40), read("[" * 8 + "a" + "]" * 8),
                       REPEAT, MIRRORED, REVERSE, unroll("[" * 8 + "a" + "]" * 8), unroll("a" * 400), SIZES,
                       read("a" * 400), read("a" + "2" * 399), read("a20"), DOUBLE, swap(0, 1)])
        expected = answers(handed)
        deep, frame = 0, sys._getframe()
        while frame:
            deep, frame = deep + 1, frame.f_back
        limit = sys.getrecursionlimit()
        sys.setrecursionlimit(deep + 30)
        try:
            found = answers(handed)
        finally:
            sys.setrecursionlimit(limit)
        self.assertEqual(found, expected)


if __name__ == "__main__":
    unittest.main()
