"""Calls written shortly, and a second, slower reading of the document to compare the program with.

What stands here shares no code with the package but `answers` itself.
"""

import heapq
from functools import lru_cache

from knittext.pattern import answers

GREATEST = 10 ** 18
ONES = (1, 1, 1, 1)
# Letter, number, round brackets, others: plain ones, each one dear by itself, and many that are 0.
SOME_WEIGHTS = (
    ONES,
    (1, 0, 0, 0),
    (9, 0, 0, 0),
    (1, 9, 9, 9),
    (9, 9, 0, 0),
    (2, 1, 0, 0),
    (1, 9, 0, 1),
    (1, 0, 9, 1),
    (3, 1, 1, 0),
    (2, 2, 0, 1),
    (4, 1, 3, 2),
    (9, 1, 9, 9),
)


# Calls

def bytes_of(text):
    return list(text.encode("ascii")) if isinstance(text, str) else list(text)


def stitches_of(row):
    """A row written as letters, as numbers; numbers stay as they are."""
    return [ord(letter) - 97 for letter in row] if isinstance(row, str) else list(row)


def listed(number, values):
    return [number, len(values)] + list(values)


def weights(letter, number, brackets, others):
    return [0, letter, number, brackets, others]


def word(row):
    return listed(1, stitches_of(row))


def read(text):
    return listed(2, bytes_of(text))


TELL = [3]
SHORTEST = [4]


def cost(text):
    return listed(5, bytes_of(text))


def stretch(i, n):
    return [6, i, n]


TABLE = [7]


def proves(numbers):
    return listed(8, numbers)


def ways(i, n):
    return [9, i, n]


RUNS = [10]


def ask(*calls):
    """The answer to each call, one list of calls being handed in."""
    handed = [number for call in calls for number in call]
    given = answers(handed)
    split = []
    place = 0
    while place < len(given):
        split.append(given[place + 1:place + 1 + given[place]])
        place += 1 + given[place]
    assert place == len(given) and len(split) == len(calls), "answers are not one for each call"
    return split


def last(*calls):
    return ask(*calls)[-1]


def text_of(answered):
    return bytes(answered).decode("ascii")


def flat(lists):
    return [number for numbers in lists for number in numbers]


# Numbers that jump about, the same ones at each run

class Jumps:
    def __init__(self, seed):
        self.state = seed

    def below(self, bound):
        self.state = (self.state * 6364136223846793005 + 1442695040888963407) % 2 ** 64
        return (self.state >> 33) % bound

    def one_of(self, choices):
        return choices[self.below(len(choices))]


# Texts, read by descent to a tree and then weighed and unrolled

class Fault(Exception):
    def __init__(self, kind, place):
        super().__init__(kind, place)
        self.pair = [kind, place]


OPENINGS = {"(": ")", "<": ">", "[": "]"}


def number_at(text, place):
    end = place
    while text[end:end + 1].isdigit():
        end += 1
    if end == place:
        raise Fault(1, place)
    if text[place:end] not in [str(number) for number in range(2, 100)]:
        raise Fault(2, place)
    return int(text[place:end]), end


def part_at(text, place, around):
    sign = text[place:place + 1]
    if "a" <= sign <= "z" and sign:
        if not text[place + 1:place + 2].isdigit():
            return (sign, None, 1), place + 1
        times, end = number_at(text, place + 1)
        return (sign, None, times), end
    if sign and sign in OPENINGS:
        if around == 8:
            raise Fault(4, place)
        parts, end = parts_at(text, place + 1, around + 1)
        if text[end:end + 1] != OPENINGS[sign]:
            raise Fault(1, end)
        if sign != "(":
            return (sign, parts, 1), end + 1
        times, end = number_at(text, end + 1)
        return (sign, parts, times), end
    raise Fault(1, place)


def parts_at(text, place, around):
    parts = []
    while not parts or text[place:place + 1] and text[place] in "abcdefghijklmnopqrstuvwxyz(<[":
        part, place = part_at(text, place, around)
        parts.append(part)
    return parts, place


def length_of(parts):
    total = 0
    for sign, inner, times in parts:
        if inner is None:
            total += times
        elif sign == "(":
            total += times * length_of(inner)
        else:
            total += 2 * length_of(inner) - (sign == "[")
    return total


def unrolled(parts):
    told = ""
    for sign, inner, times in parts:
        if inner is None:
            told += sign * times
        elif sign == "(":
            told += unrolled(inner) * times
        else:
            there = unrolled(inner)
            told += there + there[::-1][sign == "[":]
    return told


def depth_of(parts):
    return max([0 if inner is None else 1 + depth_of(inner) for _, inner, _ in parts])


def text_cost(text, weighed):
    """A right text's cost, by its signs alone."""
    digits = "".join("0" if sign.isdigit() else " " for sign in text)
    letters = sum("a" <= sign <= "z" for sign in text)
    others = text.count("<") + text.count("[")
    return (letters * weighed[0] + len(digits.split()) * weighed[1]
            + text.count("(") * weighed[2] + others * weighed[3])


def reference_read(text):
    """A fault (kind, place), or the parts."""
    # Latin-1 digits such as a raised 2 count as digits to Python, not to the document.
    text = "".join(sign if sign < "\x80" else "!" for sign in text)
    try:
        parts, end = parts_at(text, 0, 0)
        if end < len(text):
            raise Fault(1, end)
        if length_of(parts) > 40:
            raise Fault(3, end)
    except Fault as fault:
        return fault.pair, None
    return None, parts


def reference_cost(text, row, weighed):
    """What `cost` is to answer, the row being written as letters."""
    fault, parts = reference_read(text)
    if fault:
        return [0] + fault
    return [0, 0, text_cost(text, weighed), int(unrolled(parts) == row), depth_of(parts)]


# Ways, told by the stitches of a stretch alone, written as letters

def ways_of(row, weighed, cost_of):
    letter, number, brackets, others = weighed
    n = len(row)
    found = []
    if len(set(row)) == 1:
        found.append((0, 0, letter + (number if n > 1 else 0)))
    for p in range(1, n):
        if n % p == 0 and row == row[:p] * (n // p):
            found.append((1, p, brackets + number + cost_of(row[:p])))
    if n % 2 == 0 and row == row[::-1]:
        found.append((2, 0, others + cost_of(row[:n // 2])))
    if n % 2 == 1 and n >= 3 and row == row[::-1]:
        found.append((3, 0, others + cost_of(row[:(n + 1) // 2])))
    for k in range(1, n):
        found.append((4, k, cost_of(row[:k]) + cost_of(row[k:])))
    return found


@lru_cache(maxsize=None)
def least_cost(row, weighed):
    return min(way[2] for way in reference_ways(row, weighed))


def reference_ways(row, weighed):
    return ways_of(row, weighed, lambda shorter: least_cost(shorter, weighed))


@lru_cache(maxsize=None)
def reference_text(row, weighed):
    found = reference_ways(row, weighed)
    least = least_cost(row, weighed)
    kind, size, _ = [way for way in found if way[2] == least][0]
    n = len(row)
    if kind == 0:
        return row[0] + (str(n) if n > 1 else "")
    if kind == 1:
        return "(" + reference_text(row[:size], weighed) + ")" + str(n // size)
    if kind == 2:
        return "<" + reference_text(row[:n // 2], weighed) + ">"
    if kind == 3:
        return "[" + reference_text(row[:n // 2 + 1], weighed) + "]"
    return reference_text(row[:size], weighed) + reference_text(row[size:], weighed)


def stretches(row):
    """Each stretch as its place and length, in the order in which tables are told."""
    return [(i, n) for n in range(1, len(row) + 1) for i in range(len(row) - n + 1)]


def reference_table(row, weighed):
    return [least_cost(row[i:i + n], weighed) for i, n in stretches(row)]


def judged_right(row, weighed, numbers):
    """Whether a told table is right; two stretches with like stitches may have unlike numbers in it."""
    told = dict(zip(stretches(row), numbers))
    letter, number, brackets, others = weighed
    for (i, n), most in told.items():
        part = row[i:i + n]
        if len(set(part)) == 1 and most > letter + (number if n > 1 else 0):
            return False
        for p in range(1, n):
            if n % p == 0 and part == part[:p] * (n // p) and most > brackets + number + told[i, p]:
                return False
        if n > 1 and part == part[::-1] and most > others + told[i, n - n // 2]:
            return False
        for k in range(1, n):
            if most > told[i, k] + told[i + k, n - k]:
                return False
    return True


# A search that knows nothing of ways: it puts texts together, the cheapest first

def cheapest_of_all(letters, most, weighed):
    """For each row of those letters, up to so many stitches: the least that any text costs that tells it."""
    letter, number, brackets, others = weighed
    waiting = [(letter, sign) for sign in letters]
    waiting += [(letter + number, sign * times) for sign in letters for times in range(2, most + 1)]
    heapq.heapify(waiting)
    least = {}
    while waiting:
        price, row = heapq.heappop(waiting)
        if row in least:
            continue
        least[row] = price
        grown = [(price + brackets + number, row * times) for times in range(2, most // len(row) + 1)]
        grown.append((price + others, row + row[::-1]))
        grown.append((price + others, row + row[::-1][1:]))
        for other, its in least.items():
            grown.append((price + its, row + other))
            grown.append((price + its, other + row))
        for made in grown:
            if len(made[1]) <= most and made[1] not in least:
                heapq.heappush(waiting, made)
    return least


def made_up_text(jumps, letters, depth):
    """Some right text (it may tell too many stitches)."""
    text = ""
    for _ in range(1 + jumps.below(3)):
        choice = jumps.below(6) if depth else 0
        if choice < 3:
            text += jumps.one_of(letters) + jumps.one_of(("", "", "2", "3", "7"))
        else:
            inner = made_up_text(jumps, letters, depth - 1)
            text += ("(" + inner + ")" + jumps.one_of("234"), "<" + inner + ">", "[" + inner + "]")[choice - 3]
    return text


def made_up_rows(jumps, count, letters="abc"):
    """Rows with much in them that repeats or is mirrored, as letters, each with a text that tells it."""
    found = []
    while len(found) < count:
        text = made_up_text(jumps, letters, 3)
        fault, parts = reference_read(text)
        if not fault:
            found.append((unrolled(parts), text))
    return found
