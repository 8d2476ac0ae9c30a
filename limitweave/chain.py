"""Views: numbers with the houses that make a chain, each of which has one ahead of it and one behind it."""

from limitweave.books import is_name
from limitweave.errors import InvalidName, NameTaken, NoView, UnknownHouse

MOST_HOUSES = 8


def check_house(house):
    """Raise InvalidName if the string is not a name."""
    if not is_name(house):
        raise InvalidName(f"no name: {house!r}")


def first_view(houses):
    """Return the view with the number 1 and the houses of a list."""
    for house in houses:
        check_house(house)
    for place, house in enumerate(houses):
        if house in houses[:place]:
            raise NameTaken(house)
    if not 1 <= len(houses) <= MOST_HOUSES:
        raise NoView("a view has 1 to 8 houses")
    return (1, tuple(houses))


def without_house(view, house):
    """Return the next view, without the house."""
    number, houses = view
    if house not in houses:
        raise UnknownHouse(house)
    if len(houses) == 1:
        raise NoView(f"the house {house} is the only one")
    return (number + 1, tuple([other for other in houses if other != house]))


def with_house(view, house):
    """Return the next view, with the house behind the last one."""
    number, houses = view
    check_house(house)
    if house in houses:
        raise NameTaken(house)
    if len(houses) >= MOST_HOUSES:
        raise NoView("a view has at most 8 houses")
    return (number + 1, houses + (house,))


def house_at(view, house, steps):
    """Return the name of the house so many places behind the house in the view, or None."""
    _, houses = view
    if house not in houses:
        return None
    place = houses.index(house) + steps
    return houses[place] if 0 <= place < len(houses) else None


def ahead_of(view, house):
    """Return the name of the house directly ahead of the house in the view, or None."""
    return house_at(view, house, -1)


def behind(view, house):
    """Return the name of the house directly behind the house in the view, or None."""
    return house_at(view, house, 1)


def is_head(view, house):
    """Return True if the house is the first one of the view, otherwise False."""
    return view[1][0] == house


def is_last(view, house):
    """Return True if the house is the last one of the view, otherwise False."""
    return view[1][-1] == house
