"""Names, requests, rows of entries, limits and books of limits."""

from limitweave.errors import InvalidBook, InvalidEntry, InvalidLimit, InvalidName, InvalidRequest, UnknownName

NAME_SIGNS = "abcdefghijklmnopqrstuvwxyz0123456789"
KEY_SIGNS = "abcdefghijklmnopqrstuvwxyz0123456789-"
GREATEST_MOMENT = 1000000000
GREATEST_COST = 1000
GREATEST_NUMBER = 1000000
MOST_GROUPS = 8
MOST_SHARES = 8
MOST_LIMITS = 8

# The words of the limits that count what is let in and not released, so that waiting alone makes no room under them.
HOLDING = ("held", "pool")

# For each word but "pool", whose numbers have another form: how small each of its numbers may be.
LEAST_NUMBERS = {"window": (0, 1), "span": (0, 1), "bucket": (0, 1), "gap": (1,), "held": (0,)}


def is_name(text):
    """Return True if the string is a name, otherwise False."""
    return isinstance(text, str) and 1 <= len(text) <= 12 and all([sign in NAME_SIGNS for sign in text])


def is_key(text):
    """Return True if the string is a key, otherwise False."""
    return isinstance(text, str) and 1 <= len(text) <= 20 and all([sign in KEY_SIGNS for sign in text])


def is_within(number, least, greatest):
    """Return True for an integer within the bounds, False for any other value."""
    return isinstance(number, int) and least <= number <= greatest


def is_moment(moment):
    """Return True for a moment, False for any other value."""
    return is_within(moment, 0, GREATEST_MOMENT)


def is_request(key, group, cost):
    """Return True if the three make a request, otherwise False."""
    return is_key(key) and is_name(group) and is_within(cost, 1, GREATEST_COST)


def check_request(key, group, cost):
    """Raise InvalidRequest if the three make no request."""
    if not is_request(key, group, cost):
        raise InvalidRequest(f"no request: {key!r}, {group!r}, {cost!r}")


def check_moment(moment):
    """Raise InvalidRequest if the integer is not a moment."""
    if not is_moment(moment):
        raise InvalidRequest(f"no moment: {moment!r}")


def is_entry(entry):
    """Return True if the tuple is an entry by itself, otherwise False."""
    if len(entry) == 5 and entry[0] == "ask":
        return is_request(entry[1], entry[2], entry[3]) and is_moment(entry[4])
    return len(entry) == 3 and entry[0] == "release" and is_key(entry[1]) and is_moment(entry[2])


def goes_on(entry, moment, asked):
    """Tell whether an entry can stand behind a row that ends at a moment and asks the keys of a dict."""
    if not is_entry(entry) or entry[-1] < moment:
        return False
    return (entry[1] in asked) == (entry[0] == "release")


def check_entries(entries):
    """Raise InvalidEntry with the number of the first entry with which the list is no row of entries."""
    moment = 0
    asked = {}
    for number, entry in enumerate(entries):
        if not goes_on(entry, moment, asked):
            raise InvalidEntry(number)
        moment = entry[-1]
        asked[entry[1]] = True


def is_ascending(names):
    """Return True if the names are different and in ascending order, otherwise False."""
    return all([first < second for first, second in zip(names, names[1:])])


def has_share_form(share):
    """Return True for a tuple of a string and two integers, whatever their bounds, otherwise False."""
    if not isinstance(share, tuple) or len(share) != 3:
        return False
    return isinstance(share[0], str) and isinstance(share[1], int) and isinstance(share[2], int)


def has_form(word, numbers):
    """Return True if the word is one of the six and the numbers have its form, whatever their bounds."""
    if word == "pool":
        if len(numbers) != 2 or not isinstance(numbers[0], int) or not isinstance(numbers[1], tuple):
            return False
        return all([has_share_form(share) for share in numbers[1]])
    if word not in LEAST_NUMBERS or len(numbers) != len(LEAST_NUMBERS[word]):
        return False
    return all([isinstance(number, int) for number in numbers])


def groups_of(limit):
    """Return the tuple of the groups that the limit names, those of a pool in its shares."""
    if limit[1] == "pool":
        return tuple([share[0] for share in limit[3][1]])
    return limit[2]


def check_names(names):
    """Raise InvalidName if something in the tuple is not a name."""
    for name in names:
        if not is_name(name):
            raise InvalidName(f"no name: {name!r}")


def shares_fit(most, shares):
    """Return True if the number, the bounds and the sum of the shares are right, otherwise False."""
    if not 1 <= len(shares) <= MOST_SHARES:
        return False
    for _, own, ceiling in shares:
        if not 0 <= own <= ceiling <= GREATEST_NUMBER:
            return False
    return sum([share[1] for share in shares]) <= most


def numbers_fit(word, numbers):
    """Return True if numbers that have the form of the word are within their bounds, otherwise False."""
    if word == "pool":
        return is_within(numbers[0], 0, GREATEST_NUMBER) and shares_fit(numbers[0], numbers[1])
    return all([least <= number <= GREATEST_NUMBER for least, number in zip(LEAST_NUMBERS[word], numbers)])


def check_limit(limit):
    """Raise InvalidName or InvalidLimit if the tuple is no limit."""
    if len(limit) != 4:
        raise InvalidLimit("a limit has four parts")
    name, word, groups, numbers = limit
    check_names((name,) + groups)
    if not has_form(word, numbers):
        raise InvalidLimit(f"the numbers have not the form of the word: {word!r}")
    named = groups_of(limit)
    check_names(named)
    if word == "pool" and groups != ():
        raise InvalidLimit("a pool has no groups but those of its shares")
    if len(groups) > MOST_GROUPS or not is_ascending(named):
        raise InvalidLimit("the groups are too many, or not in ascending order")
    if not numbers_fit(word, numbers):
        raise InvalidLimit(f"the numbers of the limit {name} are beyond their bounds")


def looks_at(limit, group):
    """Return True if the limit looks at requests of the group, otherwise False."""
    if limit[1] == "pool":
        return group in groups_of(limit)
    return limit[2] == () or group in limit[2]


class Book:
    """Some limits that all hold at once. A book does not change."""

    def __init__(self, limits):
        for limit in limits:
            check_limit(limit)
        if not 1 <= len(limits) <= MOST_LIMITS:
            raise InvalidBook("a book has 1 to 8 limits")
        if len(set([limit[0] for limit in limits])) != len(limits):
            raise InvalidBook("two limits of a book have different names")
        # The names differ, so that nothing behind them is compared.
        self._limits = sorted(limits)

    @property
    def limits(self):
        """A new list of the limits in order."""
        return list(self._limits)

    @property
    def limit_names(self):
        """A new list of the names of the limits in order."""
        return [limit[0] for limit in self._limits]

    def limit_named(self, name):
        """Return the limit with the name."""
        for limit in self._limits:
            if limit[0] == name:
                return limit
        raise UnknownName(name)

    def limits_for(self, group):
        """Return the list of the limits that look at the group, in order."""
        return [limit for limit in self._limits if looks_at(limit, group)]

    def with_limit(self, limit):
        """Return a book with this limit in addition, or instead of the one with the same name."""
        check_limit(limit)
        return Book([kept for kept in self._limits if kept[0] != limit[0]] + [limit])

    def without_limit(self, name):
        """Return a book without the limit with the name."""
        left = self.limit_named(name)
        return Book([kept for kept in self._limits if kept != left])

    def same_as(self, other):
        """Return True if the other book has the same limits, otherwise False."""
        return self._limits == other.limits
