"""What can be told of a row, or of a stretch of it, by its stitches alone."""


def has_period(stitches, period):
    return len(stitches) % period == 0 and stitches[period:] == stitches[:len(stitches) - period]


def least_period(stitches):
    """The least period that is shorter than the stitches, or 0 if there is none."""
    for period in range(1, len(stitches)):
        if has_period(stitches, period):
            return period
    return 0


def is_mirrored(stitches):
    return stitches == list(reversed(stitches))


def runs_of(row):
    """For each lot of like neighbours, as long as can be: the stitch, how many."""
    runs = []
    for stitch in row:
        if runs and runs[-2] == stitch:
            runs[-1] += 1
        else:
            runs.extend([stitch, 1])
    return runs


# The longest stretches are looked at first, and as long ones by their places: the first that fits is the one.


def longest_repeat(row):
    """Of the longest stretch that has a period: the place, the least period, how often; empty if none has one."""
    for length in range(len(row), 1, -1):
        for start in range(len(row) - length + 1):
            period = least_period(row[start:start + length])
            if period > 0:
                return [start, period, length // period]
    return []


def longest_mirrored(row):
    """Of the longest stretch that is the same backwards: the place, how long it is; empty if the row is."""
    for length in range(len(row), 0, -1):
        for start in range(len(row) - length + 1):
            if is_mirrored(row[start:start + length]):
                return [start, length]
    return []


def swapped(row, one, other):
    """The row with each of the one stitch as the other, and the other way round."""
    instead = {one: other, other: one}
    return [instead.get(stitch, stitch) for stitch in row]
