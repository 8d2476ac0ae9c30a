"""The weave: houses on a chain, the letters on their way between them, and what the weave was told."""

from limitweave.books import GREATEST_MOMENT, check_request
from limitweave.chain import first_view, with_house, without_house
from limitweave.errors import KeyKnown, NameTaken, NoView, TooLarge, UnknownHouse, UnknownKey, UnknownLetter
from limitweave.house import House, first_text
from limitweave.keeper import MOST_REQUESTS
from limitweave.letters import WEAVE, Letter, told_answer


class Weave:
    """A book, houses, a moment and letters on their way. Houses fall and rise, and letters are lost and doubled."""

    def __init__(self, book, houses):
        view = first_view(houses)
        self.book = book
        self.moment = 0
        self._view = view
        # All houses that there ever were. One that has fallen is there as it would be if it rose.
        self._houses = {}
        # The texts of the journals of the houses that have fallen.
        self._fallen = {}
        self._cleared = {}
        # The houses that are full, as they told or as those of the first view are from the beginning.
        self._full = {}
        self._letters = {}
        self._next_number = 0
        # The group and the cost of each key that was asked, in this order.
        self._asked = {}
        self._answers = {}
        # The keys whose releases were asked for, in this order, and whether the weave was told of their release.
        self._releases = {}
        for house in view[1]:
            self._houses[house] = House(house, book, first_text(view, 0))
            self._full[house] = True

    def houses(self):
        """Return the list of the names of all houses that there ever were, in the order in which they were taken in."""
        return list(self._houses)

    def present_view(self):
        """Return the present view."""
        return self._view

    def stands(self, house):
        """Return True if the house has not fallen, otherwise False."""
        self._house_named(house)
        return house not in self._fallen

    def row_of(self, house):
        """Return the list of the entries of the house."""
        return self._house_named(house).row()

    def journal_text(self, house):
        """Return the text of the journal of the house, also what is torn off there."""
        standing = self._house_named(house)
        return self._fallen[house] if house in self._fallen else standing.journal_text()

    def view_of(self, house):
        """Return the view of the house, or None."""
        return self._house_named(house).view

    def due_of(self, house):
        """Return the due of the house, or None."""
        return self._house_named(house).due

    def full_houses(self):
        """Return the list of the houses of the present view that told that they are full and were not cleared."""
        return [house for house in self._view[1] if house in self._full and house not in self._cleared]

    def letters(self):
        """Return the list of the letters on their way, in the order of their numbers."""
        return list(self._letters.values())

    def ask(self, key, group, cost, *, house=None):
        """Send a request to a house, by default to the head of the present view. Return the number of the letter."""
        check_request(key, group, cost)
        receiver = self._receiver(house)
        if self._asked.get(key, (group, cost)) != (group, cost):
            raise KeyKnown(key)
        if key not in self._asked and len(self._asked) >= MOST_REQUESTS:
            raise TooLarge(f"a weave takes at most {MOST_REQUESTS} requests")
        self._asked[key] = (group, cost)
        return self._send(WEAVE, receiver, None, ("ask", key, group, cost))

    def release(self, key, *, house=None):
        """Send the release of a key to a house, by default to the head of the present view. Return its number."""
        if key not in self._answers or not self._answers[key].is_let:
            raise UnknownKey(key)
        receiver = self._receiver(house)
        self._releases.setdefault(key, False)
        return self._send(WEAVE, receiver, None, ("release", key))

    def tick(self, moments):
        """Make the moment greater by so many, but not greater than the greatest one."""
        self.moment = min(self.moment + moments, GREATEST_MOMENT)

    def deliver(self, number, *, falls_after=None):
        """Deliver the letter with the number. The house that gets it can fall after so many characters."""
        letter = self._letter_numbered(number)
        del self._letters[number]
        if letter.receiver == WEAVE:
            self._hear(letter)
        elif letter.receiver not in self._fallen:
            self._hand_over(letter, falls_after)

    def lose(self, number):
        """Take the letter with the number away."""
        self._letter_numbered(number)
        del self._letters[number]

    def double(self, number):
        """Send a copy of the letter with the number. Return the number of the copy."""
        letter = self._letter_numbered(number)
        return self._send(letter.sender, letter.receiver, letter.view, letter.body)

    def wake(self, house):
        """Wake the house, if it has not fallen."""
        if self.stands(house):
            self._send_all(house, self._houses[house].wake())

    def fall(self, house):
        """Let the house fall. Return True, or False if it has fallen already."""
        if not self.stands(house):
            return False
        self._let_fall(house, self._houses[house].journal_text())
        return True

    def rise(self, house):
        """Let the house rise from the text of its journal. Return True, or False if it stands."""
        if self.stands(house):
            return False
        del self._fallen[house]
        return True

    def clear_disk(self, house):
        """Let the house fall, and clear its journal."""
        self._house_named(house)
        if self.full_houses() == [house]:
            raise NoView(f"the house {house} is the only full one")
        self._cleared[house] = True
        self._let_fall(house, "")

    def leave_out(self, house):
        """Make and return a new view without the house."""
        view = without_house(self._view, house)
        if not [other for other in self.full_houses() if other != house]:
            raise NoView(f"without the house {house} none is full")
        return self._begin_view(view)

    def take_in(self, house):
        """Make and return a new view with a new house behind the last one."""
        if house in self._houses:
            raise NameTaken(house)
        view = with_house(self._view, house)
        self._houses[house] = House(house, self.book, first_text(view, None))
        return self._begin_view(view)

    def announce(self):
        """Send the present view to each of its houses, in order."""
        for house in self._view[1]:
            self._send(WEAVE, house, self._view, ("view",))

    def ask_again(self):
        """Send each untold request, and then each untold release, to the head of the present view."""
        head = self._view[1][0]
        for key in self.untold():
            group, cost = self._asked[key]
            self._send(WEAVE, head, None, ("ask", key, group, cost))
        for key in self.untold_releases():
            self._send(WEAVE, head, None, ("release", key))

    def told(self):
        """Return a dict from the keys that were told to the answers."""
        return dict(self._answers)

    def untold(self):
        """Return the list of the keys that were asked and not told, in the order in which they were first asked for."""
        return [key for key in self._asked if key not in self._answers]

    def untold_releases(self):
        """Return the list of the keys whose releases were asked for and not told, in this order."""
        return [key for key, is_told in self._releases.items() if not is_told]

    def released(self):
        """Return the list of the keys whose releases were told, in the order in which these were first asked for."""
        return [key for key, is_told in self._releases.items() if is_told]

    def settle(self):
        """Announce, ask again, wake and deliver, over and over, until nothing comes of it any more."""
        known = None
        while known != self._known():
            known = self._known()
            self.announce()
            self.ask_again()
            for house in self._view[1]:
                self.wake(house)
            while self._letters:
                for number in list(self._letters):
                    self.deliver(number)

    def _known(self):
        """Return the list of all journals, and of how much the weave was told, which never becomes less."""
        texts = [self.journal_text(house) for house in self._houses]
        return [texts, len(self._answers), len(self.released()), len(self._full)]

    def _house_named(self, house):
        """Return the house, one that has fallen as it would be if it rose."""
        if house not in self._houses:
            raise UnknownHouse(house)
        return self._houses[house]

    def _letter_numbered(self, number):
        """Return the letter on its way with the number."""
        if number not in self._letters:
            raise UnknownLetter(number)
        return self._letters[number]

    def _receiver(self, house):
        """Return the name of the house, or that of the head of the present view for None."""
        if house is None:
            return self._view[1][0]
        self._house_named(house)
        return house

    def _send(self, sender, receiver, view, body):
        """Send a letter, and return its number."""
        number = self._next_number
        self._letters[number] = Letter(number, sender, receiver, view, body)
        self._next_number = number + 1
        return number

    def _send_all(self, sender, letters):
        """Send letters of a house, each told by its receiver, its view and its body."""
        for receiver, view, body in letters:
            self._send(sender, receiver, view, body)

    def _hear(self, letter):
        """Take note of what a house tells the weave."""
        word = letter.body[0]
        if word == "told":
            self._answers.setdefault(letter.body[1], told_answer(letter.body))
        elif word == "released":
            self._releases[letter.body[1]] = True
        elif letter.sender not in self._cleared:
            self._full[letter.sender] = True

    def _hand_over(self, letter, falls_after):
        """Give a letter to its house, which stands, and may fall while it writes."""
        house = self._houses[letter.receiver]
        if falls_after is None:
            self._send_all(letter.receiver, house.handle(letter, self.moment))
        else:
            many = len(house.journal_text())
            house.handle(letter, self.moment)
            self._let_fall(letter.receiver, house.journal_text()[:many + falls_after])

    def _let_fall(self, house, text):
        """Let the house fall, with this text of its journal."""
        self._fallen[house] = text
        self._houses[house] = House(house, self.book, text)

    def _begin_view(self, view):
        """Make the view the present one, send it to each of its houses, and return it."""
        self._view = view
        self.announce()
        return view
