"""The written form of a land: writing it and parsing it back."""

from everyfire.errors import InvalidNotation
from everyfire.lands import DIGITS, Land, is_name

MOST_DIGITS = 6
SHUT = "-"


def format_land(land):
    """Return the written form of a land."""
    lines = [" ".join(["winds", *land.winds]), " ".join(["places", *land.places])]
    for name, one, other, times in land.links:
        words = ["link", name, one, other] + [_time_word(bounds) for bounds in times]
        lines.append(" ".join(words))
    for one, other, minutes in land.paths:
        lines.append(f"path {one} {other} {minutes}")
    return "\n".join(lines)


def _time_word(bounds):
    if bounds is None:
        return SHUT
    least, most = bounds
    return f"{least}-{most}"


def parse_land(text):
    """Return the land whose written form is the text."""
    # Splitting at single spaces leaves an empty word, which is no name, for each wrong blank.
    rows = [line.split(" ") for line in text.split("\n")]
    if not _is_names("winds", rows[0]):
        raise InvalidNotation(1)
    if len(rows) < 2 or not _is_names("places", rows[1]):
        raise InvalidNotation(2)
    links = []
    paths = []
    for number, words in enumerate(rows[2:], start=3):
        if _is_link(words) and len(paths) == 0:
            links.append(_read_link(words))
        elif _is_path(words):
            paths.append((words[1], words[2], int(words[3])))
        else:
            raise InvalidNotation(number)
    return Land(winds=rows[0][1:], places=rows[1][1:], links=links, paths=paths)


def is_number(word):
    """Tell whether the string is an integer as the notation writes them."""
    if not 1 <= len(word) <= MOST_DIGITS:
        return False
    if word[0] == "0":
        return word == "0"
    return all([sign in DIGITS for sign in word])


def _is_names(first, words):
    return words[0] == first and all([is_name(word) for word in words[1:]])


def _is_link(words):
    if len(words) < 4 or words[0] != "link":
        return False
    return all([is_name(word) for word in words[1:4]]) and all([_is_time(word) for word in words[4:]])


def _is_path(words):
    if len(words) != 4 or words[0] != "path":
        return False
    return is_name(words[1]) and is_name(words[2]) and is_number(words[3])


def _is_time(word):
    if word == SHUT:
        return True
    parts = word.split("-")
    return len(parts) == 2 and is_number(parts[0]) and is_number(parts[1])


def _read_link(words):
    return (words[1], words[2], words[3], [_read_time(word) for word in words[4:]])


def _read_time(word):
    if word == SHUT:
        return None
    return tuple([int(part) for part in word.split("-")])
