"""Rules, read from text.

Each reader is told the words and the number of the first one that is its own, and tells what it read and the number
of the word behind. What can't stand is refused by its number; a word that is lacking has the number behind all.
"""

from leastlore.errors import NoText
from leastlore.rules import MOST_BACK, MOST_LEVELS, MOST_MANY, MOST_NAMES
from leastlore.rules import All, Both, But, Days, Either, Ends, Keyed, Last, Now, Turns
from leastlore.runs import MOST_END
from leastlore.words import is_name, plain_number


def read_rule(text):
    """The rule that a text writes."""
    if not isinstance(text, str):
        raise NoText(0)
    words = text.split(" ")
    rule, at = rule_at(words, 0, MOST_LEVELS)
    if at < len(words):
        raise NoText(at)
    return rule


def word_at(words, at):
    """The word of a number, or None."""
    return words[at] if at < len(words) else None


def rule_at(words, at, levels):
    """The rule of at most so many levels that begins at a word."""
    word = word_at(words, at)
    match word:
        case "all":
            return All(), at + 1
        case "now":
            return Now(), at + 1
        case "key":
            return names_at(words, at + 1)
        case "days" | "turns":
            return stretch_at(words, at)
        case "last":
            return Last(number_at(words, at + 1, 1, MOST_MANY)), at + 2
        case "ends":
            many = number_at(words, at + 1, 1, MOST_MANY)
            return Ends(many, number_at(words, at + 2, 0, MOST_BACK)), at + 3
    if levels == 1 or word not in ("both", "either", "but"):
        raise NoText(at)
    return pair_at(words, at, levels)


def number_at(words, at, low, high):
    """The number from low to high that a word writes."""
    number = plain_number(word_at(words, at), high)
    if number is None or number < low:
        raise NoText(at)
    return number


def names_at(words, at):
    """The rule of the names that stand from a word on, as far as they can."""
    names = []
    word = word_at(words, at)
    while is_name(word) and word not in names and len(names) < MOST_NAMES:
        names.append(word)
        word = word_at(words, at + len(names))
    if not names:
        raise NoText(at)
    return Keyed(names), at + len(names)


def stretch_at(words, at):
    """The rule of a stretch, of days or of turns, that begins at a word."""
    begin = number_at(words, at + 1, 0, MOST_END - 1)
    end = number_at(words, at + 2, begin + 1, MOST_END)
    return Days(begin, end) if words[at] == "days" else Turns(begin, end), at + 3


def pair_at(words, at, levels):
    """The rule of two rules that begins at a word."""
    one, behind = inner_at(words, at + 1, levels - 1)
    other, behind_both = inner_at(words, behind, levels - 1)
    if words[at] == "both":
        return Both(one, other), behind_both
    if words[at] == "either":
        return Either(one, other), behind_both
    return But(one, other), behind_both


def inner_at(words, at, levels):
    """The rule in brackets that begins at a word."""
    if word_at(words, at) != "(":
        raise NoText(at)
    rule, behind = rule_at(words, at + 1, levels)
    if word_at(words, behind) != ")":
        raise NoText(behind)
    return rule, behind + 1
