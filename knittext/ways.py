"""Ways to tell a stretch, the table of least costs, the told text, and whether another's table is right.

Tables are kept by length and then by place: costs[n][i] is the cost of the n stitches from i on; costs[0] is empty.
A way is a tuple: its kind, its period or k (else 0), its cost.
"""

from knittext.rows import has_period, is_mirrored
from knittext.texts import (
    ANGLE_CLOSING,
    ANGLE_OPENING,
    DIGIT_0,
    LETTER_A,
    ROUND_CLOSING,
    ROUND_OPENING,
    SQUARE_CLOSING,
    SQUARE_OPENING,
)

ALIKE = 0
PERIOD = 1
EVEN_MIRROR = 2
ODD_MIRROR = 3
SPLIT = 4


def first_half(length):
    """How many stitches stand within the brackets that mirror them to so many."""
    return (length + 1) // 2


def alike_ways(stitches, weights):
    if not has_period(stitches, 1):
        return []
    number = weights.number if len(stitches) > 1 else 0
    return [(ALIKE, 0, weights.letter + number)]


def period_ways(stitches, weights, costs, start):
    around = weights.brackets + weights.number
    periods = [period for period in range(1, len(stitches)) if has_period(stitches, period)]
    return [(PERIOD, period, around + costs[period][start]) for period in periods]


def mirror_ways(stitches, weights, costs, start):
    length = len(stitches)
    if length == 1 or not is_mirrored(stitches):
        return []
    kind = EVEN_MIRROR if length % 2 == 0 else ODD_MIRROR
    return [(kind, 0, weights.others + costs[first_half(length)][start])]


def split_ways(length, costs, start):
    return [(SPLIT, k, costs[k][start] + costs[length - k][start + k]) for k in range(1, length)]


def stretch_ways(row, weights, costs, start, length):
    """Every way to tell the stretch, in order, each with its cost by those of the shorter stretches."""
    stitches = row[start:start + length]
    ways = alike_ways(stitches, weights)
    ways.extend(period_ways(stitches, weights, costs, start))
    ways.extend(mirror_ways(stitches, weights, costs, start))
    ways.extend(split_ways(length, costs, start))
    return ways


def way_cost(way):
    return way[2]


def first_least(ways):
    # Of several that cost the least, min gives the first, which is the one to tell by.
    return min(ways, key=way_cost)


def best_ways(row, weights):
    """For each stretch, by length and place, the first of its ways that cost the least."""
    best = [[]]
    costs = [[]]
    for length in range(1, len(row) + 1):
        count = len(row) - length + 1
        chosen = [first_least(stretch_ways(row, weights, costs, start, length)) for start in range(count)]
        best.append(chosen)
        costs.append([way_cost(way) for way in chosen])
    return best


def costs_of(best):
    costs = []
    for chosen in best:
        costs.append([way_cost(way) for way in chosen])
    return costs


def digits_of(number):
    """The bytes of a number from 2 to 40."""
    if number < 10:
        return [DIGIT_0 + number]
    return [DIGIT_0 + number // 10, DIGIT_0 + number % 10]


def text_by_way(row, way, texts, start, length):
    """The bytes that tell the stretch by that way, the texts of shorter stretches being given."""
    kind = way[0]
    size = way[1]
    if kind == ALIKE:
        return [LETTER_A + row[start]] + (digits_of(length) if length > 1 else [])
    if kind == PERIOD:
        return [ROUND_OPENING] + texts[size][start] + [ROUND_CLOSING] + digits_of(length // size)
    if kind == EVEN_MIRROR:
        return [ANGLE_OPENING] + texts[first_half(length)][start] + [ANGLE_CLOSING]
    if kind == ODD_MIRROR:
        return [SQUARE_OPENING] + texts[first_half(length)][start] + [SQUARE_CLOSING]
    return texts[size][start] + texts[length - size][start + size]


def told_text(row, best):
    """The bytes of the whole row's told text."""
    texts = [[]]
    for length in range(1, len(row) + 1):
        ways = best[length]
        texts.append([text_by_way(row, way, texts, start, length) for start, way in enumerate(ways)])
    return texts[len(row)][0]


def stretch_count(length):
    return length * (length + 1) // 2


def flat_table(costs):
    numbers = []
    for as_long in costs:
        numbers.extend(as_long)
    return numbers


def table_of(numbers, length):
    """A table that is told stretch by stretch, kept by length and place."""
    costs = [[]]
    place = 0
    for size in range(1, length + 1):
        count = length - size + 1
        costs.append(numbers[place:place + count])
        place += count
    return costs


def is_right_table(row, weights, costs):
    for length in range(1, len(row) + 1):
        for start, cost in enumerate(costs[length]):
            if cost > way_cost(first_least(stretch_ways(row, weights, costs, start, length))):
                return False
    return True
