"""The lines of the desk: their forms, and what fills these."""

from alwaysmeet.errors import NoLine, NoShare
from alwaysmeet.fractions import share_in
from alwaysmeet.words import is_name, plain_number

NUMBER_FIGURES = 9
# What stands behind the first word. A name has a plan kept under it; a new one needs none.
FORMS = {
    "plan": ("new", "text"),
    "drop": ("name",),
    "names": (),
    "text": ("name",),
    "lots": ("name",),
    "decides": ("name", "houses"),
    "meets": ("name",),
    "alike": ("name", "name"),
    "other": ("name", "new"),
    "widen": ("name", "new"),
    "settled": ("name", "houses"),
    "may": ("name",),
    "more": ("name", "houses"),
    "hopes": ("name", "houses"),
    "load": ("name",),
    "weights": ("name",),
    "chance": ("name", "shares"),
    "turns": ("name",),
    "keep": ("name", "name"),
    "fall": ("house",),
    "come": ("house",),
    "write": ("number",),
    "read": (),
    "undo": (),
    "missed": (),
}
# These take all words that are left, so they stand last.
ROWS = ("text", "houses", "shares")


def written_number(word):
    """The number that a word writes plainly, with a sign where it is below nought; or None."""
    if not word.startswith("-"):
        return plain_number(word, NUMBER_FIGURES)
    number = plain_number(word[1:], NUMBER_FIGURES)
    # Nought has no sign.
    return None if number is None or number == 0 else -number


def part_of(kind, word):
    """What a word tells as a part of this kind, or None."""
    if kind == "house":
        return word
    if kind == "number":
        return written_number(word)
    return word if is_name(word) else None


def shares_of(words):
    """The shares whose texts the words are, or None where one is none."""
    try:
        return [share_in(word) for word in words]
    except NoShare:
        return None


def row_of(kind, words):
    """What the words tell as a row of this kind, or None."""
    if kind == "houses":
        return list(words)
    if kind == "shares":
        return shares_of(words)
    return " ".join(words) if len(words) > 0 else None


def parts_of(kinds, words):
    """What the words tell as parts of these kinds; with None among them where a word can't stand there."""
    if len(kinds) > 0 and kinds[-1] in ROWS:
        ahead = len(kinds) - 1
        return parts_of(kinds[:-1], words[:ahead]) + [row_of(kinds[-1], words[ahead:])]
    if len(words) != len(kinds):
        return [None]
    return [part_of(kind, word) for kind, word in zip(kinds, words)]


def read_line(line):
    """The first word of a line, and the list of what stands behind it by its form."""
    if not isinstance(line, str) or "\n" in line:
        raise NoLine(line)
    words = line.split(" ")
    if "" in words or words[0] not in FORMS:
        raise NoLine(line)
    parts = parts_of(FORMS[words[0]], words[1:])
    if None in parts:
        raise NoLine(line)
    return words[0], parts


def names_in(word, parts):
    """Those parts of a line that are names under which a plan has to be kept, in order."""
    return [part for kind, part in zip(FORMS[word], parts) if kind == "name"]
