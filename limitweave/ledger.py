"""Rows of entries, and what books decided of them, so that nothing has to be decided a second time."""

from limitweave.keeper import Keeper, keeper_of_rows


class Page:
    """What one book decided, and a keeper of it to which one of these rows was given."""

    def __init__(self, book):
        self.book = book
        self.keeper = Keeper(book)
        self.place = 0
        # What the last entry of each row came to, by the number of the row: the row of a keeper for a request, and
        # for a release whether it changed something.
        self.outcomes = {}


def decide(keeper, entry):
    """Give the entry to the keeper. Return what it came to."""
    if entry[0] == "release":
        return keeper.release(entry[1], entry[2])
    answer = keeper.ask(entry[1:4], entry[4])
    return entry[1:] + (answer.lacking, answer.earliest, False)


class Ledger:
    """Rows of entries with numbers, with all their beginnings. The empty row has the number 0."""

    def __init__(self):
        # How many entries books decided.
        self.many = 0
        # For each row the number of the row without its last entry, and this entry.
        self._ends = [(0, ())]
        # The numbers of the rows that have one entry more, by the number of a row and this entry.
        self._longer = {}
        self._pages = {}

    def row(self, number):
        """Return the list of the entries of the row with the number."""
        return [self._ends[place][1] for place in self._places(number)]

    def extended(self, book, number, entry):
        """Return the number of the row with one more entry, which the book decides. It has decided the row ahead.

        Raises what a keeper raises that cannot take the entry.
        """
        page = self._page(book)
        # Of the empty row there is no outcome.
        longer = self._longer.get((number, entry), 0)
        if longer not in page.outcomes:
            self._turn(page, number)
            outcome = decide(page.keeper, entry)
            longer = self._number_for(number, entry)
            self._note(page, longer, outcome)
        return longer

    def decide_row(self, book, number):
        """Let the book decide what it has not yet decided of the row with the number."""
        page = self._page(book)
        missing = [place for place in self._places(number) if place not in page.outcomes]
        if missing:
            self._turn(page, self._ends[missing[0]][0])
        for place in missing:
            self._note(page, place, decide(page.keeper, self._ends[place][1]))

    def outcome(self, book, number):
        """Return what the last entry of the row with the number, which the book has decided, came to."""
        return self._page(book).outcomes[number]

    def keeper_rows(self, book, number):
        """Return the rows of the keeper of the book that takes the row with the number, which it has decided."""
        page = self._page(book)
        rows = {}
        for place in self._places(number):
            _, entry = self._ends[place]
            if entry[0] == "ask":
                rows[entry[1]] = page.outcomes[place]
            elif page.outcomes[place]:
                rows[entry[1]] = rows[entry[1]][:-1] + (True,)
        return list(rows.values())

    def _page(self, book):
        """Return the page of the books with the same limits."""
        limits = tuple(book.limits)
        if limits not in self._pages:
            self._pages[limits] = Page(book)
        return self._pages[limits]

    def _places(self, number):
        """Return the list of the numbers of all beginnings of a row but the empty one, from the shortest on."""
        places = []
        while number > 0:
            places.append(number)
            number, _ = self._ends[number]
        return places[::-1]

    def _turn(self, page, number):
        """Bring the keeper of the page to a row that its book has decided. That decides nothing."""
        if page.place == number:
            return
        moment = self._ends[number][1][-1] if number > 0 else None
        page.keeper = keeper_of_rows(page.book, moment, self.keeper_rows(page.book, number))
        page.place = number

    def _number_for(self, number, entry):
        """Return the number of the row with one more entry."""
        if (number, entry) not in self._longer:
            self._longer[(number, entry)] = len(self._ends)
            self._ends.append((number, entry))
        return self._longer[(number, entry)]

    def _note(self, page, number, outcome):
        """Take note of what was decided of the last entry of a row, to which the keeper of the page was brought."""
        page.outcomes[number] = outcome
        page.place = number
        self.many += 1
