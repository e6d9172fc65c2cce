"""Sets of numbers, each held as one whole number, its mask.

A number n is in the set where the mask has the figure worth 2 ** n. So sets
are joined, made common and lessened by one step each, however great they are.
"""


def mask_between(begin, end):
    """The mask of the numbers from begin to ahead of the end."""
    return (1 << end) - (1 << begin)


def mask_of(runs):
    """The mask of all numbers that some stretch of these has."""
    mask = 0
    for begin, end in runs:
        mask |= mask_between(begin, end)
    return mask


def first_in(mask):
    """The least number of a mask that has one."""
    return (mask & -mask).bit_length() - 1


def runs_in(mask):
    """The tidy row of the numbers of a mask."""
    runs = []
    end = 0
    while mask >> end:
        begin = end + first_in(mask >> end)
        end = begin + first_in(~(mask >> begin))
        runs.append((begin, end))
    return runs


def repeated(mask, size, many):
    """The mask so many times, at least once, each time so many figures further up than the last time."""
    if many == 1:
        return mask
    # What is doubled comes to thousands of times in a few steps.
    half = repeated(mask, size, many // 2)
    told = half | half << size * (many // 2)
    return told | mask << size * (many - 1) if many % 2 else told
