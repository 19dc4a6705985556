"""What can be told of a row by its stitches alone."""


def runs_of(row):
    """For each lot of like neighbours, as long as can be: the stitch, how many."""
    runs = []
    for stitch in row:
        if runs and runs[-2] == stitch:
            runs[-1] += 1
        else:
            runs.extend([stitch, 1])
    return runs
