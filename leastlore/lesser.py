"""Rights compared, and rows of them that may go."""

from leastlore.boxsets import boxes_in, first_point_in
from leastlore.rights import allowed_by, check_row_number


def beyond(frame, one, other):
    """The tidy boxes of the points that are allowed by the one and not by the other."""
    return boxes_in(frame, one.mask(frame) & ~other.mask(frame))


def is_lesser(frame, one, other):
    """Whether all that the one allow is allowed by the other, too."""
    return one.mask(frame) & ~other.mask(frame) == 0


def are_alike(frame, one, other):
    """Whether both allow the very same points."""
    return one.mask(frame) == other.mask(frame)


def changed_without(rows, number):
    """The mask of the points that just one of the rows with and without that of a number allow."""
    return allowed_by(rows) ^ allowed_by(rows[:number] + rows[number + 1:])


def idle_among(rows):
    """The numbers of the idle ones of some rows, each of them a word and the mask of its rule."""
    return [number for number in range(len(rows)) if changed_without(rows, number) == 0]


def idle_rows(frame, rights):
    """The numbers of all idle rows."""
    return idle_among(rights.masks(frame))


def telling_point(frame, rights, number):
    """The first point that just one of the rights with and without a row allow; None, where it is idle."""
    check_row_number(rights, number)
    changed = changed_without(rights.masks(frame), number)
    return first_point_in(frame, changed) if changed else None


def without_idle(frame, rights):
    """The rights that are left when the last idle row goes, as long as there is one."""
    left = rights
    rows = rights.masks(frame)
    idle = idle_among(rows)
    while idle:
        left = left.without_row(idle[-1])
        rows = rows[:idle[-1]] + rows[idle[-1] + 1:]
        idle = idle_among(rows)
    return left
