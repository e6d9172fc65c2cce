"""The refusals: each keeps the very things that it was made of."""


class LoreError(ValueError):
    """Any refusal."""


class NoNumber(LoreError):
    """What was found is no such number."""

    def __init__(self, found):
        self.found = found


class NoName(LoreError):
    """What was found is no name, or none that is known."""

    def __init__(self, found):
        self.found = found


class NoFrame(LoreError):
    """What was found makes no frame."""

    def __init__(self, found):
        self.found = found


class NoPoint(LoreError):
    """What was found is no point of the frame."""

    def __init__(self, found):
        self.found = found


class NoStretch(LoreError):
    """What was found is no stretch, or no tidy row."""

    def __init__(self, found):
        self.found = found


class NoBoxes(LoreError):
    """What was found is no box, or no tidy boxes, of the frame."""

    def __init__(self, found):
        self.found = found


class NoFinding(LoreError):
    """What was found is no finding of the frame."""

    def __init__(self, found):
        self.found = found


class Clash(LoreError):
    """The thing with the number at says otherwise than the other one."""

    def __init__(self, at, other):
        self.at = at
        self.other = other


class NoBook(LoreError):
    """What was found is no book."""

    def __init__(self, found):
        self.found = found


class NoRule(LoreError):
    """What was found is no rule."""

    def __init__(self, found):
        self.found = found


class NoRights(LoreError):
    """What was found makes no rights."""

    def __init__(self, found):
        self.found = found


class NoText(LoreError):
    """At this row, or word, the text can't be read."""

    def __init__(self, at):
        self.at = at


class NotAllowed(LoreError):
    """At this point may not be asked, by the row of this place."""

    def __init__(self, point, place):
        self.point = point
        self.place = place


class NoPart(LoreError):
    """What was found is no part of the book."""

    def __init__(self, found):
        self.found = found


class NoPaper(LoreError):
    """What was found is no paper."""

    def __init__(self, found):
        self.found = found


class Unlike(LoreError):
    """What was found doesn't fit what stands beside it."""

    def __init__(self, found):
        self.found = found


class NotThinner(LoreError):
    """This part says what the thin book doesn't say."""

    def __init__(self, part):
        self.part = part


class NoDisk(LoreError):
    """What was found makes no disk, or there is none."""

    def __init__(self, found):
        self.found = found


class NoPage(LoreError):
    """What was found is no page, or no number of one."""

    def __init__(self, found):
        self.found = found


class Rotten(LoreError):
    """What stands on this page can't be part of the book."""

    def __init__(self, page):
        self.page = page


class Full(LoreError):
    """So many pages would be needed."""

    def __init__(self, many):
        self.many = many


class Dark(LoreError):
    """The power went when so many numbers were written."""

    def __init__(self, many):
        self.many = many


class NoKey(LoreError):
    """What was found is no key of the frame."""

    def __init__(self, found):
        self.found = found


class NoRow(LoreError):
    """What was found is no row that can be taken."""

    def __init__(self, found):
        self.found = found


class NoLine(LoreError):
    """This is no line that a desk takes."""

    def __init__(self, line):
        self.line = line
