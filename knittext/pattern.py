"""The calls on one pattern, a row and its weights: handed in as one list of numbers, answered as one."""

from knittext.rows import longest_mirrored, longest_repeat, runs_of, swapped
from knittext.texts import MOST_STITCHES, read_text
from knittext.ways import (
    best_ways,
    costs_of,
    flat_table,
    is_right_table,
    stretch_count,
    stretch_ways,
    table_of,
    told_text,
    way_cost,
)

DONE = 0
OUT_OF_RANGE = -1
ROW_IS_EMPTY = -2
NO_SUCH_PLACE = -3
WRONG_COUNT = -6
ROW_TOO_LONG = -8

MOST_WEIGHT = 9
LAST_STITCH = 25
MOST_BYTES = 400
LAST_BYTE = 255
MOST_COST = 1000


class Weights:
    """What a letter, a number, a pair of round brackets and a pair of others cost."""

    def __init__(self, letter, number, brackets, others):
        self.letter = letter
        self.number = number
        self.brackets = brackets
        self.others = others


class Pattern:
    """What holds from call to call. The row's list is never changed: another one takes its place."""

    def __init__(self):
        self.row = []
        self.weights = Weights(1, 1, 1, 1)


def are_within(numbers, least, greatest):
    return all([least <= number <= greatest for number in numbers])


def is_stitch(number):
    return 0 <= number <= LAST_STITCH


def is_text(numbers):
    return len(numbers) <= MOST_BYTES and are_within(numbers, 0, LAST_BYTE)


# Where several refusals are due, the one nearest to 0 is answered: each call looks for them in that order.


def place_refusal(row, place):
    """The refusal that is due for the place, or DONE if a stitch stands there."""
    if not 0 <= place < MOST_STITCHES:
        return OUT_OF_RANGE
    if place >= len(row):
        return NO_SUCH_PLACE
    return DONE


def lengthening_refusal(row, count):
    """The refusal that is due for so many stitches more, or DONE if the row can have them."""
    return ROW_TOO_LONG if len(row) + count > MOST_STITCHES else DONE


def insert_refusal(row, place):
    """The refusal that is due for one more stitch at the place, or DONE if it can stand there."""
    if not 0 <= place <= MOST_STITCHES:
        return OUT_OF_RANGE
    if place > len(row):
        return NO_SUCH_PLACE
    return lengthening_refusal(row, 1)


def stretch_refusal(row, start, length):
    """The refusal that is due for the stretch, or DONE if there is such a stretch."""
    if not (0 <= start < MOST_STITCHES and 1 <= length <= MOST_STITCHES):
        return OUT_OF_RANGE
    if not row:
        return ROW_IS_EMPTY
    if start + length > len(row):
        return NO_SUCH_PLACE
    return DONE


def table_refusal(row, numbers):
    """The refusal that is due for a table told by others, or DONE if it can be judged."""
    if len(numbers) > stretch_count(MOST_STITCHES) or not are_within(numbers, 0, MOST_COST):
        return OUT_OF_RANGE
    if not row:
        return ROW_IS_EMPTY
    if len(numbers) != stretch_count(len(row)):
        return WRONG_COUNT
    return DONE


def call_weights(pattern, given):
    if not (1 <= given[0] <= MOST_WEIGHT and are_within(given[1:], 0, MOST_WEIGHT)):
        return [OUT_OF_RANGE]
    pattern.weights = Weights(given[0], given[1], given[2], given[3])
    return [DONE]


def call_word(pattern, given):
    if not (1 <= len(given) <= MOST_STITCHES and are_within(given, 0, LAST_STITCH)):
        return [OUT_OF_RANGE]
    pattern.row = list(given)
    return [DONE]


def call_read(pattern, given):
    if not is_text(given):
        return [OUT_OF_RANGE]
    reading = read_text(given)
    if not reading.is_right():
        return [DONE] + reading.fault()
    pattern.row = reading.told()
    return [DONE, 0, len(pattern.row), reading.cost(pattern.weights)]


def call_tell(pattern, given):
    return [DONE] + pattern.row


def call_shortest(pattern, given):
    if not pattern.row:
        return [ROW_IS_EMPTY]
    best = best_ways(pattern.row, pattern.weights)
    text = told_text(pattern.row, best)
    return [DONE, way_cost(best[-1][0]), read_text(text).depth] + text


def call_cost(pattern, given):
    if not is_text(given):
        return [OUT_OF_RANGE]
    reading = read_text(given)
    if not reading.is_right():
        return [DONE] + reading.fault()
    tells_row = 1 if reading.told() == pattern.row else 0
    return [DONE, 0, reading.cost(pattern.weights), tells_row, reading.depth]


def call_stretch(pattern, given):
    refusal = stretch_refusal(pattern.row, given[0], given[1])
    if refusal != DONE:
        return [refusal]
    # A stretch's costs and text hang on its own stitches alone, so it is told as a row by itself.
    stitches = pattern.row[given[0]:given[0] + given[1]]
    best = best_ways(stitches, pattern.weights)
    return [DONE, way_cost(best[-1][0])] + told_text(stitches, best)


def call_table(pattern, given):
    if not pattern.row:
        return [ROW_IS_EMPTY]
    return [DONE] + flat_table(costs_of(best_ways(pattern.row, pattern.weights)))


def call_proves(pattern, given):
    refusal = table_refusal(pattern.row, given)
    if refusal != DONE:
        return [refusal]
    costs = table_of(given, len(pattern.row))
    return [DONE, 1 if is_right_table(pattern.row, pattern.weights, costs) else 0]


def call_ways(pattern, given):
    refusal = stretch_refusal(pattern.row, given[0], given[1])
    if refusal != DONE:
        return [refusal]
    costs = costs_of(best_ways(pattern.row, pattern.weights))
    answer = [DONE]
    for way in stretch_ways(pattern.row, pattern.weights, costs, given[0], given[1]):
        answer.extend(way)
    return answer


def call_runs(pattern, given):
    return [DONE] + runs_of(pattern.row)


def call_repeat(pattern, given):
    repeat = longest_repeat(pattern.row)
    return [DONE, 1] + repeat if repeat else [DONE, 0]


def call_mirrored(pattern, given):
    if not pattern.row:
        return [ROW_IS_EMPTY]
    return [DONE] + longest_mirrored(pattern.row)


def call_change(pattern, given):
    place = given[0]
    stitch = given[1]
    refusal = place_refusal(pattern.row, place) if is_stitch(stitch) else OUT_OF_RANGE
    if refusal != DONE:
        return [refusal]
    before = pattern.row[place]
    pattern.row = pattern.row[:place] + [stitch] + pattern.row[place + 1:]
    return [DONE, before]


def call_insert(pattern, given):
    place = given[0]
    stitch = given[1]
    refusal = insert_refusal(pattern.row, place) if is_stitch(stitch) else OUT_OF_RANGE
    if refusal != DONE:
        return [refusal]
    pattern.row = pattern.row[:place] + [stitch] + pattern.row[place:]
    return [DONE, len(pattern.row)]


def call_remove(pattern, given):
    place = given[0]
    refusal = place_refusal(pattern.row, place)
    if refusal != DONE:
        return [refusal]
    before = pattern.row[place]
    pattern.row = pattern.row[:place] + pattern.row[place + 1:]
    return [DONE, before]


def call_reverse(pattern, given):
    pattern.row = list(reversed(pattern.row))
    return [DONE]


def call_unroll(pattern, given):
    if not is_text(given):
        return [OUT_OF_RANGE]
    reading = read_text(given)
    if not reading.is_right():
        return [DONE] + reading.fault()
    return [DONE, 0] + reading.told()


def call_more(pattern, given):
    if not is_text(given):
        return [OUT_OF_RANGE]
    reading = read_text(given)
    if not reading.is_right():
        return [DONE] + reading.fault()
    refusal = lengthening_refusal(pattern.row, len(reading.told()))
    if refusal != DONE:
        return [refusal]
    pattern.row = pattern.row + reading.told()
    return [DONE, 0, len(pattern.row)]


def call_double(pattern, given):
    refusal = lengthening_refusal(pattern.row, len(pattern.row))
    if refusal != DONE:
        return [refusal]
    pattern.row = pattern.row * 2
    return [DONE, len(pattern.row)]


def call_swap(pattern, given):
    if not are_within(given, 0, LAST_STITCH):
        return [OUT_OF_RANGE]
    pattern.row = swapped(pattern.row, given[0], given[1])
    return [DONE]


def call_sizes(pattern, given):
    weights = pattern.weights
    row = pattern.row
    answer = [DONE, weights.letter, weights.number, weights.brackets, weights.others]
    return answer + [len(row), len(set(row)), len(row) * weights.letter]


# A call's number is its place in these two. No call has both whole numbers and a list.
LISTED = -1
GIVEN_COUNTS = (4, -1, -1, 0, 0, -1, 2, 0, -1, 2, 0, 0, 0, 2, 2, 1, 0, -1, -1, 0, 2, 0)
CALLS = (
    call_weights,
    call_word,
    call_read,
    call_tell,
    call_shortest,
    call_cost,
    call_stretch,
    call_table,
    call_proves,
    call_ways,
    call_runs,
    call_repeat,
    call_mirrored,
    call_change,
    call_insert,
    call_remove,
    call_reverse,
    call_unroll,
    call_more,
    call_double,
    call_swap,
    call_sizes,
)


def answers(calls):
    pattern = Pattern()
    told = []
    place = 0
    while place < len(calls):
        number = calls[place]
        place += 1
        count = GIVEN_COUNTS[number]
        if count == LISTED:
            count = calls[place]
            place += 1
        answer = CALLS[number](pattern, calls[place:place + count])
        place += count
        told.append(len(answer))
        told.extend(answer)
    return told
