"""Questions and papers as texts: writing them and parsing them back."""

from everyfire.commands import case_lines, has_form, row_of
from everyfire.errors import InvalidNotation, InvalidPaper
from everyfire.fires import MAYBE, NEVER, SURELY
from everyfire.papers import Paper, check_paper

QUESTION = "question"
# The forms of lines, in the order in which their sorts stand.
QUESTION_LINES = ("wind MINUTE WIND", "start PLACE MINUTE", "break PLACE MINUTE")
PAPER_LINES = ("label PLACE MINUTE", "catch PLACE LINK MINUTE", "catch PLACE - MINUTE")
NO_LINK = "-"


def question_text(weather, starts, breaks):
    """Return the written form of a weather, starts and breaks."""
    return "\n".join([QUESTION, *case_lines(weather, starts, breaks)])


def parse_question(text):
    """Return the tuple of the weather, the starts and the breaks that the text writes."""
    lines = text.split("\n")
    wrong = _wrong_line(lines, (QUESTION,), QUESTION_LINES)
    if wrong is not None:
        raise InvalidNotation(wrong)
    rows = [row_of(line.split(" ")) for line in lines[1:]]
    return (_rows_of("wind", rows), _rows_of("start", rows), _rows_of("break", rows))


def paper_text(told):
    """Return the written form of a Paper."""
    lines = [told.word]
    lines.extend([f"label {place} {minute}" for place, minute in told.labels])
    lines.extend([f"catch {place} {_link_word(link)} {minute}" for place, link, minute in told.chain])
    return "\n".join(lines)


def parse_paper(text):
    """Return the Paper that the text writes."""
    lines = text.split("\n")
    wrong = _wrong_line(lines, (NEVER, MAYBE, SURELY), PAPER_LINES)
    if wrong is not None:
        raise InvalidPaper(wrong)
    rows = [line.split(" ") for line in lines[1:]]
    labels = [(place, int(minute)) for place, minute in _rows_of("label", rows)]
    chain = [(place, _read_link(word), int(minute)) for place, word, minute in _rows_of("catch", rows)]
    return Paper(lines[0], labels, chain)


def check_text(land, weather, starts, breaks, place, text):
    """Tell whether the text is that of a paper about the place that is right."""
    told = parse_paper(text)
    return check_paper(land, weather, starts, breaks, place, told)


def _wrong_line(lines, firsts, forms):
    """Return the number of the first line that cannot stand where it stands, or None."""
    if lines[0] not in firsts:
        return 1
    sorts = [form.split(" ")[0] for form in forms]
    reached = 0
    for number, line in enumerate(lines[1:], start=2):
        # Splitting at single spaces leaves an empty word, which has no form, for each wrong blank.
        words = line.split(" ")
        if not any([has_form(words, form) for form in forms]) or sorts.index(words[0]) < reached:
            return number
        reached = sorts.index(words[0])
    return None


def _rows_of(sort, rows):
    """Return the rows that begin with the word of this sort, without the word."""
    return [row[1:] for row in rows if row[0] == sort]


def _link_word(link):
    return NO_LINK if link is None else link


def _read_link(word):
    return None if word == NO_LINK else word
