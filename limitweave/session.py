"""Sessions, which obey lines at a desk and reply to them."""

from limitweave.desk import Desk
from limitweave.errors import EarlierMoment, InvalidBook, InvalidRequest, KeyKnown, NothingToRedo, NothingToUndo
from limitweave.errors import TooLarge, UnknownKey, UnknownName
from limitweave.notation import MOMENT_DIGITS, NUMBER_DIGITS, format_answer, format_book, format_entries
from limitweave.notation import parse_limit, parse_number
from limitweave.report import answer_lines

DONE = "ok"
NO_COMMAND = "error command"

# How many words the lines that begin with these words have, but for "limit", whose line has any number of words.
WORD_COUNTS = {
    "ask": 5, "release": 3, "drop": 2, "undo": 1, "redo": 1, "book": 1, "entries": 1, "answers": 1, "turned": 2,
}


class Session:
    """A desk that obeys lines."""

    def __init__(self, book):
        self._desk = Desk(book)

    def obey(self, line):
        """Obey a line, and return the reply."""
        try:
            return self._reply_to(line)
        except InvalidRequest:
            return "error request"
        except KeyKnown as known:
            return f"error known {known.key}"
        except UnknownKey as unknown:
            return f"error unknown {unknown.key}"
        except EarlierMoment as earlier:
            return f"error earlier {earlier.moment}"
        except UnknownName as unnamed:
            return f"error name {unnamed.name}"
        except InvalidBook:
            return "error book"
        except NothingToUndo:
            return "error undo"
        except NothingToRedo:
            return "error redo"
        except TooLarge:
            return "error large"

    def play(self, text):
        """Obey the lines of a text, and return the list of the replies."""
        return [self.obey(line) for line in text.split("\n")]

    def _reply_to(self, line):
        """Obey a line, and return the reply. The errors of the desk go on."""
        words = line.split(" ")
        word = words[0]
        if word == "limit":
            return self._set_limit(line[len("limit "):])
        if "" in words or WORD_COUNTS.get(word) != len(words):
            return NO_COMMAND
        if word == "ask" or word == "release":
            return self._put(words)
        if len(words) == 1:
            return self._do_plainly(word)
        if word == "drop":
            self._desk.drop_limit(words[1])
            return DONE
        keys = self._desk.turned(self._desk.book_now().without_limit(words[1]))
        return " ".join(keys) if keys else "none"

    def _set_limit(self, line):
        """Set the limit that the line writes, and return the reply."""
        limit = parse_limit(line)
        if limit is None:
            return NO_COMMAND
        self._desk.set_limit(limit)
        return DONE

    def _put(self, words):
        """Put the entry that the words tell behind the row, and return the reply."""
        moment = parse_number(words[-1], MOMENT_DIGITS)
        if moment is None:
            return NO_COMMAND
        if words[0] == "release":
            return "released" if self._desk.release(words[1], moment) else "idle"
        cost = parse_number(words[3], NUMBER_DIGITS)
        if cost is None:
            return NO_COMMAND
        return format_answer(self._desk.ask(words[1], words[2], cost, moment))

    def _do_plainly(self, word):
        """Do what a line of one word says, and return the reply."""
        if word == "undo":
            self._desk.undo()
        elif word == "redo":
            self._desk.redo()
        elif word == "book":
            return format_book(self._desk.book_now())
        elif word == "entries":
            return format_entries(self._desk.entries_now())
        else:
            return answer_lines(self._desk.answers_now())
        return DONE
