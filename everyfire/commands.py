"""The lines of sessions: their words, the commands, and the lines of which a case is made."""

from everyfire.lands import is_name
from everyfire.notation import is_number

# A word in capitals is for a name, or for a number if it is MINUTE.
COMMANDS = (
    "land NAME", "case NAME LAND", "start CASE PLACE MINUTE", "break CASE PLACE MINUTE", "free CASE PLACE",
    "ask CASE PLACE", "states CASE", "show CASE", "print LAND", "undo", "redo", "lands", "cases",
    "remove land NAME", "remove case NAME",
)


def split_words(line):
    """Return the list of the parts of the line between spaces that are not empty."""
    return [word for word in line.split(" ") if word != ""]


def is_command(words):
    """Tell whether the words are a command."""
    return any([has_form(words, form) for form in COMMANDS])


def row_of(words):
    """Return the row that the words of a line of a case write, with its first word; or None if they write none."""
    if has_form(words, "wind MINUTE WIND"):
        return ("wind", int(words[1]), words[2])
    if has_form(words, "start PLACE MINUTE") or has_form(words, "break PLACE MINUTE"):
        return (words[0], words[1], int(words[2]))
    return None


def case_lines(weather, starts, breaks):
    """Return the list of the lines that write a weather, starts and breaks."""
    lines = [f"wind {minute} {wind}" for minute, wind in weather]
    lines.extend([f"start {place} {minute}" for place, minute in starts])
    lines.extend([f"break {place} {minute}" for place, minute in breaks])
    return lines


def has_form(words, form):
    """Tell whether the words have a form: the same words, but names and numbers for the ones in capitals."""
    slots = form.split(" ")
    return len(words) == len(slots) and all([_fits(word, slot) for word, slot in zip(words, slots)])


def _fits(word, slot):
    if slot == "MINUTE":
        return is_number(word)
    if slot.isupper():
        return is_name(word)
    return word == slot
