"""The grammar of [40], followed plainly by all its ways at once: which word of a text is the first that can't stand."""

import re

from alwaysmeet.words import own_words

GRAMMAR = {
    "PLAN": [
        ["lots", "GROUP", "GROUPS"], ["many", "NUMBER", "GROUP"], ["weights", "NUMBER", "(", "PAIRS", ")"],
        ["grid", "GROUPS"], ["wall", "GROUPS"], ["tree", "TREE"],
        ["put", "NAME", "(", "PLAN", ")", "(", "PLAN", ")"],
    ],
    "GROUP": [["(", "NAMES", ")"]],
    "GROUPS": [[], ["GROUP", "GROUPS"]],
    "NAMES": [[], ["NAME", "NAMES"]],
    "PAIRS": [[], ["NAME", "NUMBER", "PAIRS"]],
    "TREE": [["NAME", "WAYS"]],
    "WAYS": [[], ["(", "TREE", ")", "WAYS"]],
}


def fits(word, sign):
    if sign == "NAME":
        return re.fullmatch("[a-z]{1,6}", word) is not None and word not in own_words()
    if sign == "NUMBER":
        return re.fullmatch("0|[1-9][0-9]{0,3}", word) is not None
    return word == sign


def opened(waiting):
    """All rows of signs that may be waited for, each with a word's sign ahead, or empty."""
    told = set()
    while waiting:
        row = waiting.pop()
        if row and row[-1] in GRAMMAR:
            for choice in GRAMMAR[row[-1]]:
                waiting.append(row[:-1] + tuple(choice[::-1]))
        else:
            told.add(row)
    return told


def first_wrong(text):
    """The place that NoText tells of the text, or None where the whole text stands so."""
    words = text.split(" ")
    rows = opened([("PLAN",)])
    for at, word in enumerate(words):
        rows = opened([row[:-1] for row in rows if row and fits(word, row[-1])])
        if not rows:
            return at
    return None if () in rows else len(words)
