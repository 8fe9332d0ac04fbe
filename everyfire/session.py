"""Sessions: a book that is used by lines of text."""

from everyfire.book import Book
from everyfire.commands import case_lines, is_command, row_of, split_words
from everyfire.errors import (
    InvalidLand, InvalidNotation, InvalidQuestion, InvalidWeather, NameInUse, NothingToRedo, NothingToUndo, UnknownName,
)
from everyfire.notation import format_land, parse_land

# The first words of the commands that change nothing.
TELLING = ("ask", "states", "show", "print", "lands", "cases")


class LandBlock:
    """An open block of a land, with the words of each line that was taken."""

    def __init__(self, name):
        self.name = name
        self.taken = []

    def close(self, book):
        """Set the land that the lines write."""
        land = parse_land("\n".join([" ".join(words) for words in self.taken]))
        book.set_land(self.name, land)


class CaseBlock:
    """An open block of a case, with the words of each line that was taken."""

    def __init__(self, name, land_name):
        self.name = name
        self.land_name = land_name
        self.taken = []

    def close(self, book):
        """Set the case that the lines write."""
        book.land(self.land_name)
        rows = {"wind": [], "start": [], "break": []}
        for number, words in enumerate(self.taken, start=1):
            row = row_of(words)
            if row is None:
                raise InvalidNotation(number)
            rows[row[0]].append(row[1:])
        book.set_case(self.name, self.land_name, rows["wind"], rows["start"], rows["break"])


class Session:
    """A session with a book that has nothing in it at first."""

    def __init__(self):
        self.book = Book()
        # The block that is open, or None.
        self.block = None

    def run(self, text):
        """Do the lines of the text, and return the list of all lines that they answer."""
        lines = []
        for number, line in enumerate(text.split("\n"), start=1):
            words = split_words(line)
            if len(words) > 0:
                lines.extend(self._take(number, words))
        return lines

    def _take(self, number, words):
        """Return the list of the lines that a line with words answers."""
        if self.block is None:
            if is_command(words):
                return self._try(number, words)
            return [f"line {number}: invalid command"]
        if words == ["end"]:
            return self._try(number, words)
        self.block.taken.append(words)
        return []

    def _try(self, number, words):
        """Do a command or the end of a block, and return the list of the lines that it answers, also for an error."""
        try:
            return self._do(words)
        except UnknownName as strange:
            told = f"unknown name {strange.name}"
        except NameInUse as used:
            told = f"name in use {used.name}"
        except InvalidNotation as wrong:
            told = f"invalid notation {wrong.line}"
        except InvalidLand:
            told = "invalid land"
        except InvalidWeather:
            told = "invalid weather"
        except InvalidQuestion:
            told = "invalid question"
        except NothingToUndo:
            told = "nothing to undo"
        except NothingToRedo:
            told = "nothing to redo"
        return [f"line {number}: {told}"]

    def _do(self, words):
        """Do a command or close the block, and return the list of the lines that it answers."""
        if words[0] in TELLING:
            return self._tell(words)
        match words:
            case ["end"]:
                self._close()
            case ["land", name]:
                self.block = LandBlock(name)
            case ["case", name, land_name]:
                self.block = CaseBlock(name, land_name)
            case ["undo"]:
                self.book.undo()
            case ["redo"]:
                self.book.redo()
            case _:
                self._change(words)
        return ["ok"]

    def _close(self):
        block = self.block
        # The block is closed also if an error is raised.
        self.block = None
        block.close(self.book)

    def _change(self, words):
        """Change the book as a command says."""
        match words:
            case ["start", name, place, minute]:
                self.book.add_start(name, place, int(minute))
            case ["break", name, place, minute]:
                self.book.add_break(name, place, int(minute))
            case ["free", name, place]:
                self.book.drop_breaks(name, place)
            case ["remove", "land", name]:
                self.book.remove_land(name)
            case ["remove", "case", name]:
                self.book.remove_case(name)

    def _tell(self, words):
        """Return the list of the lines that a command tells of the book."""
        match words:
            case ["ask", name, place]:
                return [f"{place}: {self.book.answer(name, place)}"]
            case ["states", name]:
                return [f"{spot}: {state}" for spot, state in self.book.answers(name)]
            case ["show", name]:
                _, weather, starts, breaks = self.book.case(name)
                return case_lines(weather, starts, breaks)
            case ["print", name]:
                return format_land(self.book.land(name)).split("\n")
            case ["lands"]:
                return [" ".join(["lands:", *self.book.land_names()])]
            case _:
                return [" ".join(["cases:", *self.book.case_names()])]
