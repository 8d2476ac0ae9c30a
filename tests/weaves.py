"""A weave once more, from points 62 to 66 and 70, which has nothing of its houses but the texts of their journals."""

from houses import handled, row_in, text_with, view_in, woken
from limitweave.bodies import view_body
from limitweave.journal import recovered
from limitweave.letters import Letter
from limitweave.replays import keeper_of


def bodies_in(text):
    return [body for _, body in recovered(text).records()]


class Model:
    def __init__(self, book, houses):
        self.book, self.moment, self.view = book, 0, (1, tuple(houses))
        self.texts = {house: text_with([view_body((1, 0, tuple(houses)))]) for house in houses}
        self.fallen, self.cleared, self.full = set(), set(), set(houses)
        self.on_way, self.next = {}, 0
        self.asked, self.answers, self.asked_back, self.back = {}, {}, [], set()

    def send(self, sender, receiver, view, body):
        self.on_way[self.next] = (sender, receiver, view, body)
        self.next += 1
        return self.next - 1

    def ask(self, key, group, cost, house=None):
        self.asked.setdefault(key, (group, cost))
        return self.send("", house or self.view[1][0], None, ("ask", key, group, cost))

    def release(self, key, house=None):
        self.asked_back += [] if key in self.asked_back else [key]
        return self.send("", house or self.view[1][0], None, ("release", key))

    def tick(self, moments):
        self.moment = min(1000000000, self.moment + moments)

    def deliver(self, number, falls_after=None):
        sender, receiver, view, body = self.on_way.pop(number)
        if receiver == "":
            self.hear(sender, body)
        elif receiver not in self.fallen:
            text = self.texts[receiver]
            letter = Letter(number, sender, receiver, view, body)
            bodies, sends = handled(receiver, self.book, bodies_in(text), letter, self.moment)
            if falls_after is None:
                self.texts[receiver] = text_with(bodies)
                for other, its_view, its_body in sends:
                    self.send(receiver, other, its_view, its_body)
            else:
                self.texts[receiver] = text + text_with(bodies)[len(text):][:falls_after]
                self.fallen.add(receiver)

    def hear(self, sender, body):
        if body[0] == "told":
            self.answers.setdefault(body[1], body[1:])
        elif body[0] == "released":
            self.back.add(body[1])
        elif sender not in self.cleared:
            self.full.add(sender)

    def lose(self, number):
        del self.on_way[number]

    def double(self, number):
        return self.send(*self.on_way[number])

    def wake(self, house):
        if house not in self.fallen:
            for other, view, body in woken(house, bodies_in(self.texts[house])):
                self.send(house, other, view, body)

    def fall(self, house):
        if house in self.fallen:
            return False
        self.fallen.add(house)
        return True

    def rise(self, house):
        if house not in self.fallen:
            return False
        self.fallen.remove(house)
        self.texts[house] = text_with(bodies_in(self.texts[house]))
        return True

    def clear_disk(self, house):
        self.texts[house] = ""
        self.fallen.add(house)
        self.cleared.add(house)

    def leave_out(self, house):
        return self.new_view(tuple(other for other in self.view[1] if other != house))

    def take_in(self, house):
        self.texts[house] = text_with([view_body((self.view[0] + 1, None, self.view[1] + (house,)))])
        return self.new_view(self.view[1] + (house,))

    def new_view(self, houses):
        self.view = (self.view[0] + 1, houses)
        self.announce()
        return self.view

    def announce(self):
        for house in self.view[1]:
            self.send("", house, self.view, ("view",))

    def ask_again(self):
        for key in self.untold():
            self.send("", self.view[1][0], None, ("ask", key) + self.asked[key])
        for key in self.untold_releases():
            self.send("", self.view[1][0], None, ("release", key))

    def settle(self):
        while True:
            before = (dict(self.texts), dict(self.answers), set(self.back), set(self.full))
            self.announce()
            self.ask_again()
            for house in self.view[1]:
                self.wake(house)
            while self.on_way:
                self.deliver(min(self.on_way))
            if before == (self.texts, self.answers, self.back, self.full):
                return

    def full_houses(self):
        return [house for house in self.view[1] if house in self.full - self.cleared]

    def untold(self):
        return [key for key in self.asked if key not in self.answers]

    def untold_releases(self):
        return [key for key in self.asked_back if key not in self.back]

    def bodies(self, house):
        return bodies_in(self.texts[house])

    def told_or_on_way(self):
        """The parts of all answers that were told or are on their way."""
        return list(self.answers.values()) + [body[1:] for _, _, _, body in self.on_way.values() if body[0] == "told"]

    def released_or_on_way(self):
        return list(self.back) + [body[1] for _, _, _, body in self.on_way.values() if body[0] == "released"]


def all_of(weave):
    """All that a weave tells of itself."""
    return {
        "moment": weave.moment, "view": weave.present_view(), "full": weave.full_houses(),
        "letters": [letter.parts() for letter in weave.letters()],
        "told": {key: answer.parts() for key, answer in weave.told().items()}, "untold": weave.untold(),
        "untold releases": weave.untold_releases(), "released": weave.released(), "names": weave.houses(),
        "houses": {
            house: (
                weave.stands(house), weave.row_of(house), weave.view_of(house), weave.due_of(house),
                weave.journal_text(house),
            )
            for house in weave.houses()
        },
    }


def all_of_model(model):
    houses = {}
    for house, text in model.texts.items():
        view, due = view_in(model.bodies(house))
        houses[house] = (house not in model.fallen, row_in(model.bodies(house)), view, due, text)
    return {
        "moment": model.moment, "view": model.view, "full": model.full_houses(),
        "letters": [(number,) + parts for number, parts in sorted(model.on_way.items())],
        "told": model.answers, "untold": model.untold(), "untold releases": model.untold_releases(),
        "released": [key for key in model.asked_back if key in model.back], "names": list(model.texts),
        "houses": houses,
    }


def draw_deed(draw, model, harm=1.0):
    """A deed that raises nothing: the name of a method, its arguments, and those by keyword."""
    names = list(model.texts)
    house = draw.choice(names)
    letters = sorted(model.on_way)
    deeds = ["ask", "ask", "tick", "wake", "rise"] + draw.choice(([], [], ["announce"], ["ask_again"], ["settle"]))
    if letters:
        deeds += ["deliver"] * 14
    if [key for key, parts in model.answers.items() if parts[2] == ()]:
        deeds += ["release"]
    if draw.random() < harm:
        deeds += ["fall", "clear_disk", "leave_out", "take_in"] + (["lose", "double", "double"] if letters else [])
    deed = draw.choice(deeds)
    if deed == "ask":
        key = f"k{draw.randint(0, len(model.asked))}"
        request = model.asked.get(key, (draw.choice("abc"), draw.choice((1, 1, 2, 3, 9))))
        return deed, (key,) + request, draw.choice(({}, {}, {}, {}, {"house": house}))
    if deed == "release":
        let = [key for key, parts in model.answers.items() if parts[2] == ()]
        return deed, (draw.choice(let),), draw.choice(({}, {}, {}, {}, {"house": house}))
    if deed == "deliver":
        number = draw.choice((letters[0], letters[0], draw.choice(letters)))
        falls = {"falls_after": draw.choice((0, 3, 20, 30, 45, 60, 1000))} if draw.random() < 0.06 * harm else {}
        return deed, (number,), falls
    if deed in ("lose", "double"):
        return deed, (draw.choice(letters),), {}
    if deed == "tick":
        return deed, (draw.choice((0, 1, 1, 3, 10)),), {}
    if deed == "clear_disk" and model.full_houses() == [house]:
        return "wake", (house,), {}
    if deed == "leave_out":
        house = draw.choice(model.view[1])
        return (deed, (house,), {}) if set(model.full_houses()) - {house} else ("wake", (house,), {})
    if deed == "take_in":
        return (deed, (f"n{len(names)}",), {}) if len(model.view[1]) < 5 else ("announce", (), {})
    return deed, () if deed in ("announce", "ask_again", "settle") else (house,), {}


def starts_with(row, beginning):
    return row[:len(beginning)] == beginning


def faults_in(model):
    """What breaks point 67 or 68, by keepers of the rows: there should be nothing."""
    found = []
    rows = {house: row_in(model.bodies(house)) for house in model.texts}
    for house in model.texts:
        view = view_in(model.bodies(house))[0]
        if view is None or house not in view[1] or house in model.cleared:
            continue
        for ahead in view[1][:view[1].index(house)]:
            if ahead not in model.cleared and not starts_with(rows[ahead], rows[house]):
                found.append((67, house, ahead))
    there = [house for house in model.view[1] if house not in model.cleared]
    for ahead, house in zip(there, there[1:]):
        if not starts_with(rows[ahead], rows[house]):
            found.append((67, house, ahead))
    for house in model.full_houses():
        keeper = keeper_of(model.book, rows[house])
        for parts in model.told_or_on_way():
            if not keeper.knows(parts[0]) or keeper.answer_of(parts[0]).parts() != parts:
                found.append((68, house, parts))
        for key in model.released_or_on_way():
            if not keeper.knows(key) or keeper.holds(key):
                found.append((68, house, key))
    return found
