"""Calls written shortly, and a second, slower reading of the document to compare the program with.

What stands here shares no code with the package but `answers` itself.
"""

import heapq
import itertools
from functools import lru_cache

from knittext.pattern import answers

GREATEST = 10 ** 18
ONES = (1, 1, 1, 1)
# Letter, number, round brackets, others: plain ones, each one dear by itself, and many that are 0.
SOME_WEIGHTS = (
    ONES,
    (1, 0, 0, 0),
    (9, 0, 0, 0),
    (1, 9, 9, 9),
    (9, 9, 0, 0),
    (2, 1, 0, 0),
    (1, 9, 0, 1),
    (1, 0, 9, 1),
    (3, 1, 1, 0),
    (2, 2, 0, 1),
    (4, 1, 3, 2),
    (9, 1, 9, 9),
)


# Calls

def bytes_of(text):
    return list(text.encode("ascii")) if isinstance(text, str) else list(text)


def stitches_of(row):
    """A row written as letters, as numbers; numbers stay as they are."""
    return [ord(letter) - 97 for letter in row] if isinstance(row, str) else list(row)


def listed(number, values):
    return [number, len(values)] + list(values)


def weights(letter, number, brackets, others):
    return [0, letter, number, brackets, others]


def word(row):
    return listed(1, stitches_of(row))


def read(text):
    return listed(2, bytes_of(text))


TELL = [3]
SHORTEST = [4]


def cost(text):
    return listed(5, bytes_of(text))


def stretch(i, n):
    return [6, i, n]


TABLE = [7]


def proves(numbers):
    return listed(8, numbers)


def ways(i, n):
    return [9, i, n]


RUNS = [10]
REPEAT = [11]
MIRRORED = [12]


def change(i, c):
    return [13, i, c]


def insert(i, c):
    return [14, i, c]


def remove(i):
    return [15, i]


REVERSE = [16]


def unroll(text):
    return listed(17, bytes_of(text))


def more(text):
    return listed(18, bytes_of(text))


DOUBLE = [19]


def swap(one, other):
    return [20, one, other]


SIZES = [21]


def ask(*calls):
    """The answer to each call, one list of calls being handed in."""
    handed = [number for call in calls for number in call]
    given = answers(handed)
    split = []
    place = 0
    while place < len(given):
        split.append(given[place + 1:place + 1 + given[place]])
        place += 1 + given[place]
    assert place == len(given) and len(split) == len(calls), "answers are not one for each call"
    return split


def last(*calls):
    return ask(*calls)[-1]


def text_of(answered):
    return bytes(answered).decode("ascii")


def flat(lists):
    return [number for numbers in lists for number in numbers]


# Numbers that jump about, the same ones at each run

class Jumps:
    def __init__(self, seed):
        self.state = seed

    def below(self, bound):
        self.state = (self.state * 6364136223846793005 + 1442695040888963407) % 2 ** 64
        return (self.state >> 33) % bound

    def one_of(self, choices):
        return choices[self.below(len(choices))]


# Texts, read by descent to a tree and then weighed and unrolled

class Fault(Exception):
    def __init__(self, kind, place):
        super().__init__(kind, place)
        self.pair = [kind, place]


OPENINGS = {"(": ")", "<": ">", "[": "]"}


def number_at(text, place):
    end = place
    while text[end:end + 1].isdigit():
        end += 1
    if end == place:
        raise Fault(1, place)
    if text[place:end] not in [str(number) for number in range(2, 100)]:
        raise Fault(2, place)
    return int(text[place:end]), end


def part_at(text, place, around):
    sign = text[place:place + 1]
    if "a" <= sign <= "z" and sign:
        if not text[place + 1:place + 2].isdigit():
            return (sign, None, 1), place + 1
        times, end = number_at(text, place + 1)
        return (sign, None, times), end
    if sign and sign in OPENINGS:
        if around == 8:
            raise Fault(4, place)
        parts, end = parts_at(text, place + 1, around + 1)
        if text[end:end + 1] != OPENINGS[sign]:
            raise Fault(1, end)
        if sign != "(":
            return (sign, parts, 1), end + 1
        times, end = number_at(text, end + 1)
        return (sign, parts, times), end
    raise Fault(1, place)


def parts_at(text, place, around):
    parts = []
    while not parts or text[place:place + 1] and text[place] in "abcdefghijklmnopqrstuvwxyz(<[":
        part, place = part_at(text, place, around)
        parts.append(part)
    return parts, place


def length_of(parts):
    total = 0
    for sign, inner, times in parts:
        if inner is None:
            total += times
        elif sign == "(":
            total += times * length_of(inner)
        else:
            total += 2 * length_of(inner) - (sign == "[")
    return total


def unrolled(parts):
    told = ""
    for sign, inner, times in parts:
        if inner is None:
            told += sign * times
        elif sign == "(":
            told += unrolled(inner) * times
        else:
            there = unrolled(inner)
            told += there + there[::-1][sign == "[":]
    return told


def depth_of(parts):
    return max([0 if inner is None else 1 + depth_of(inner) for _, inner, _ in parts])


def text_cost(text, weighed):
    """A right text's cost, by its signs alone."""
    digits = "".join("0" if sign.isdigit() else " " for sign in text)
    letters = sum("a" <= sign <= "z" for sign in text)
    others = text.count("<") + text.count("[")
    return (letters * weighed[0] + len(digits.split()) * weighed[1]
            + text.count("(") * weighed[2] + others * weighed[3])


def reference_read(text):
    """A fault (kind, place), or the parts."""
    # Latin-1 digits such as a raised 2 count as digits to Python, not to the document.
    text = "".join(sign if sign < "\x80" else "!" for sign in text)
    try:
        parts, end = parts_at(text, 0, 0)
        if end < len(text):
            raise Fault(1, end)
        if length_of(parts) > 40:
            raise Fault(3, end)
    except Fault as fault:
        return fault.pair, None
    return None, parts


def reference_cost(text, row, weighed):
    """What `cost` is to answer, the row being written as letters."""
    fault, parts = reference_read(text)
    if fault:
        return [0] + fault
    return [0, 0, text_cost(text, weighed), int(unrolled(parts) == row), depth_of(parts)]


# Ways, told by the stitches of a stretch alone, written as letters

def ways_of(row, weighed, cost_of):
    letter, number, brackets, others = weighed
    n = len(row)
    found = []
    if len(set(row)) == 1:
        found.append((0, 0, letter + (number if n > 1 else 0)))
    for p in range(1, n):
        if n % p == 0 and row == row[:p] * (n // p):
            found.append((1, p, brackets + number + cost_of(row[:p])))
    if n % 2 == 0 and row == row[::-1]:
        found.append((2, 0, others + cost_of(row[:n // 2])))
    if n % 2 == 1 and n >= 3 and row == row[::-1]:
        found.append((3, 0, others + cost_of(row[:(n + 1) // 2])))
    for k in range(1, n):
        found.append((4, k, cost_of(row[:k]) + cost_of(row[k:])))
    return found


@lru_cache(maxsize=None)
def least_cost(row, weighed):
    return min(way[2] for way in reference_ways(row, weighed))


def reference_ways(row, weighed):
    return ways_of(row, weighed, lambda shorter: least_cost(shorter, weighed))


@lru_cache(maxsize=None)
def reference_text(row, weighed):
    found = reference_ways(row, weighed)
    least = least_cost(row, weighed)
    kind, size, _ = [way for way in found if way[2] == least][0]
    n = len(row)
    if kind == 0:
        return row[0] + (str(n) if n > 1 else "")
    if kind == 1:
        return "(" + reference_text(row[:size], weighed) + ")" + str(n // size)
    if kind == 2:
        return "<" + reference_text(row[:n // 2], weighed) + ">"
    if kind == 3:
        return "[" + reference_text(row[:n // 2 + 1], weighed) + "]"
    return reference_text(row[:size], weighed) + reference_text(row[size:], weighed)


def stretches(row):
    """Each stretch as its place and length, in the order in which tables are told."""
    return [(i, n) for n in range(1, len(row) + 1) for i in range(len(row) - n + 1)]


def reference_table(row, weighed):
    return [least_cost(row[i:i + n], weighed) for i, n in stretches(row)]


def judged_right(row, weighed, numbers):
    """Whether a told table is right; two stretches with like stitches may have unlike numbers in it."""
    told = dict(zip(stretches(row), numbers))
    letter, number, brackets, others = weighed
    for (i, n), most in told.items():
        part = row[i:i + n]
        if len(set(part)) == 1 and most > letter + (number if n > 1 else 0):
            return False
        for p in range(1, n):
            if n % p == 0 and part == part[:p] * (n // p) and most > brackets + number + told[i, p]:
                return False
        if n > 1 and part == part[::-1] and most > others + told[i, n - n // 2]:
            return False
        for k in range(1, n):
            if most > told[i, k] + told[i + k, n - k]:
                return False
    return True


# The longest repeat and mirror, by a search through all stretches in the order of their places

def reference_repeat(row):
    """Place, least period, how often; or None."""
    found, longest = None, 0
    for i in range(len(row)):
        for end in range(i + 2, len(row) + 1):
            part = row[i:end]
            times = [t for t in range(2, len(part) + 1) if part[:len(part) // t] * t == part]
            if times and len(part) > longest:
                longest = len(part)
                found = [i, len(part) // max(times), max(times)]
    return found


def reference_mirrored(row):
    """Place, length; or None of the empty row."""
    found = None
    for i in range(len(row)):
        for end in range(i + 1, len(row) + 1):
            if row[i:end] == row[i:end][::-1] and (found is None or end - i > found[1]):
                found = [i, end - i]
    return found


# All calls once more, on a row that is written as letters

BYTES = (0, 400, 0, 255)
# For each list: the least and the most numbers, the least and the greatest number.
LISTS = {1: (1, 40, 0, 25), 2: BYTES, 5: BYTES, 8: (0, 820, 0, 1000), 17: BYTES, 18: BYTES}
STITCH = (0, 25)
PLACE = (0, 39)
RANGES = {0: ((1, 9), (0, 9), (0, 9), (0, 9)), 6: (PLACE, (1, 40)), 9: (PLACE, (1, 40)), 13: (PLACE, STITCH),
          14: ((0, 40), STITCH), 15: (PLACE,), 20: (STITCH, STITCH)}


def in_range(call):
    if call[0] in LISTS:
        fewest, most, least, greatest = LISTS[call[0]]
        return fewest <= len(call) - 2 <= most and all(least <= number <= greatest for number in call[2:])
    ranges = RANGES.get(call[0], ())
    return all(least <= number <= greatest for number, (least, greatest) in zip(call[1:], ranges, strict=True))


def letters_of(stitches):
    return "".join("abcdefghijklmnopqrstuvwxyz"[stitch] for stitch in stitches)


class SecondPattern:
    """Takes one call after another and answers each as the document's words say."""

    def __init__(self):
        self.row = ""
        self.weighed = ONES

    def due(self, call):
        """Every refusal that is due, a text's fault being no refusal."""
        number, length = call[0], len(self.row)
        found = [] if in_range(call) else [-1]
        if number in (4, 6, 7, 8, 9, 12) and length == 0:
            found.append(-2)
        if number in (6, 9) and call[1] + call[2] > length:
            found.append(-3)
        if number in (13, 15) and call[1] >= length or number == 14 and call[1] > length:
            found.append(-3)
        if number == 8 and len(call) - 2 != length * (length + 1) // 2:
            found.append(-6)
        if number == 14 and length + 1 > 40 or number == 19 and length * 2 > 40:
            found.append(-8)
        if number == 18 and not found:
            fault, parts = reference_read(bytes(call[2:]).decode("latin-1"))
            if not fault and length + length_of(parts) > 40:
                found.append(-8)
        return found

    def answer(self, call):
        refusals = self.due(call)
        if refusals:
            return [max(refusals)]
        if call[0] in (2, 5, 17, 18):
            return [0] + self.by_text(call[0], bytes(call[2:]).decode("latin-1"))
        if call[0] in (0, 1, 13, 14, 15, 16, 19, 20):
            return [0] + self.by_change(call[0], call[1:])
        return [0] + self.by_look(call[0], call[1:])

    def by_text(self, number, text):
        fault, parts = reference_read(text)
        if fault:
            return fault
        told = unrolled(parts)
        if number == 2:
            self.row = told
            return [0, len(told), text_cost(text, self.weighed)]
        if number == 5:
            return reference_cost(text, self.row, self.weighed)[1:]
        if number == 17:
            return [0] + stitches_of(told)
        self.row += told
        return [0, len(self.row)]

    def by_change(self, number, given):
        row = stitches_of(self.row)
        back = []
        if number == 0:
            self.weighed = tuple(given)
        elif number == 1:
            row = given[1:]
        elif number == 13:
            back, row[given[0]] = [row[given[0]]], given[1]
        elif number == 14:
            row.insert(*given)
            back = [len(row)]
        elif number == 15:
            back = [row.pop(given[0])]
        elif number == 16:
            row.reverse()
        elif number == 19:
            row += list(row)
            back = [len(row)]
        else:
            row = [given[1] if stitch == given[0] else given[0] if stitch == given[1] else stitch for stitch in row]
        self.row = letters_of(row)
        return back

    def by_look(self, number, given):
        row, weighed = self.row, self.weighed
        if number == 3:
            return stitches_of(row)
        if number == 4:
            text = reference_text(row, weighed)
            return [least_cost(row, weighed), depth_of(reference_read(text)[1])] + bytes_of(text)
        if number in (6, 9):
            part = row[given[0]:given[0] + given[1]]
            if number == 9:
                return flat(reference_ways(part, weighed))
            return [least_cost(part, weighed)] + bytes_of(reference_text(part, weighed))
        if number == 7:
            return reference_table(row, weighed)
        if number == 8:
            return [int(judged_right(row, weighed, given[1:]))]
        if number == 10:
            return flat([ord(letter) - 97, len(list(lot))] for letter, lot in itertools.groupby(row))
        if number == 11:
            found = reference_repeat(row)
            return [1] + found if found else [0]
        if number == 12:
            return reference_mirrored(row)
        return list(weighed) + [len(row), len(frozenset(row)), sum(weighed[0] for letter in row)]


# A search that knows nothing of ways: it puts texts together, the cheapest first

def cheapest_of_all(letters, most, weighed):
    """For each row of those letters, up to so many stitches: the least that any text costs that tells it."""
    letter, number, brackets, others = weighed
    waiting = [(letter, sign) for sign in letters]
    waiting += [(letter + number, sign * times) for sign in letters for times in range(2, most + 1)]
    heapq.heapify(waiting)
    least = {}
    while waiting:
        price, row = heapq.heappop(waiting)
        if row in least:
            continue
        least[row] = price
        grown = [(price + brackets + number, row * times) for times in range(2, most // len(row) + 1)]
        grown.append((price + others, row + row[::-1]))
        grown.append((price + others, row + row[::-1][1:]))
        for other, its in least.items():
            grown.append((price + its, row + other))
            grown.append((price + its, other + row))
        for made in grown:
            if len(made[1]) <= most and made[1] not in least:
                heapq.heappush(waiting, made)
    return least


def made_up_text(jumps, letters, depth):
    """Some right text (it may tell too many stitches)."""
    text = ""
    for _ in range(1 + jumps.below(3)):
        choice = jumps.below(6) if depth else 0
        if choice < 3:
            text += jumps.one_of(letters) + jumps.one_of(("", "", "2", "3", "7"))
        else:
            inner = made_up_text(jumps, letters, depth - 1)
            text += ("(" + inner + ")" + jumps.one_of("234"), "<" + inner + ">", "[" + inner + "]")[choice - 3]
    return text


def made_up_rows(jumps, count, letters="abc"):
    """Rows with much in them that repeats or is mirrored, as letters, each with a text that tells it."""
    found = []
    while len(found) < count:
        text = made_up_text(jumps, letters, 3)
        fault, parts = reference_read(text)
        if not fault:
            found.append((unrolled(parts), text))
    return found
