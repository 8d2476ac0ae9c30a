"""Papers of refusals, which name the requests that leave no room, so that a refusal can be checked without a search."""

from limitweave.books import HOLDING, is_ascending, looks_at
from limitweave.errors import InvalidPaper
from limitweave.replays import deeds_of, keeper_of


def lets_by_key(deeds):
    """Return the dict of the keys that were let in to their deeds."""
    return {deed[1]: deed for deed in deeds if deed[0] == "let"}


def released_keys(deeds):
    """Return the dict of the keys that are released to True."""
    return {deed[1]: True for deed in deeds if deed[0] == "release"}


def is_pool_full(limit, lets, group, cost):
    """Tell whether the uses of some deeds and one more request are more than a pool lets in."""
    most, shares = limit[3]
    beyond = 0
    for name, own, ceiling in shares:
        use = sum([deed[3] for deed in lets if deed[2] == name])
        if name == group:
            use += cost
            if use > ceiling:
                return True
        beyond += max(0, use - own)
    return beyond > most - sum([own for name, own, ceiling in shares])


def is_full_by_lets(limit, lets, request, moment):
    """Tell whether a limit is full at the moment by some deeds that it looks at and that are not released."""
    word, numbers = limit[1], limit[3]
    _, group, cost = request
    moments = [deed[4] for deed in lets]
    total = sum([deed[3] for deed in lets]) + cost
    if word == "window":
        return all([moment - numbers[1] < then <= moment for then in moments]) and total > numbers[0]
    if word == "span":
        begin = moment - moment % numbers[1]
        return all([begin <= then < begin + numbers[1] for then in moments]) and total > numbers[0]
    if word == "bucket":
        passed = moment - min(moments, default=moment)
        return all([then <= moment for then in moments]) and numbers[1] * total > numbers[0] * numbers[1] + passed
    if word == "gap":
        return lets != [] and all([moment - then < numbers[0] for then in moments])
    if word == "held":
        return total > numbers[0]
    return is_pool_full(limit, lets, group, cost)


def is_full(limit, deeds, request, moment, keys):
    """Tell whether the limit, which looks at the request, is full at the moment by the keys."""
    lets = lets_by_key(deeds)
    if len(set(keys)) != len(keys) or not all([key in lets and looks_at(limit, lets[key][2]) for key in keys]):
        return False
    released = released_keys(deeds) if limit[1] in HOLDING else {}
    if any([key in released for key in keys]):
        return False
    return is_full_by_lets(limit, [lets[key] for key in keys], request, moment)


def is_full_for_ever(limit, deeds, request, moment, keys):
    """Tell whether the limit, which looks at the request, is full for ever by the keys."""
    if limit[1] in HOLDING:
        return is_full(limit, deeds, request, moment, keys)
    return limit[1] != "gap" and keys == () and request[2] > limit[3][0]


def check_refusal(book, deeds, request, moment, paper):
    """Return True if the paper shows that the request is refused, and how long, otherwise False."""
    rooms, (earliest, last_name, last_keys) = paper
    limits = {limit[0]: limit for limit in book.limits_for(request[1])}
    if rooms == () or not is_ascending([name for name, keys in rooms]):
        return False
    for name, keys in rooms:
        if name not in limits or not is_full(limits[name], deeds, request, moment, keys):
            return False
    if last_name not in limits:
        return False
    last = limits[last_name]
    if earliest is None:
        return is_full_for_ever(last, deeds, request, moment, last_keys)
    return earliest > moment and is_full(last, deeds, request, earliest - 1, last_keys)


def bucket_begin(every, lets, moment):
    """Return the moment from which on the deeds make a bucket as full as can be; it may be behind all of them."""
    # As much is missing as from a moment behind all deeds, or more.
    most_missing, begin = moment, moment + 1
    total = 0
    for deed in reversed(lets):
        total += deed[3]
        if every * total + deed[4] > most_missing:
            most_missing, begin = every * total + deed[4], deed[4]
    return begin


def begin_for(limit, lets, moment):
    """Return the first moment at which a deed counts for a request at the given moment."""
    word, numbers = limit[1], limit[3]
    if word == "bucket":
        return bucket_begin(numbers[1], lets, moment)
    if word == "span":
        return moment - moment % numbers[1]
    return moment - numbers[-1] + 1


def filling_keys(limit, deeds, moment):
    """Return the tuple of keys by which the limit is full at the moment, if it is full at all."""
    lets = [deed for deed in deeds if deed[0] == "let" and looks_at(limit, deed[2])]
    if limit[1] in HOLDING:
        released = released_keys(deeds)
        return tuple([deed[1] for deed in lets if deed[1] not in released])
    begin = begin_for(limit, lets, moment)
    return tuple([deed[1] for deed in lets if deed[4] >= begin])


def soonest_part(limits, deeds, request, answer):
    """Return the second part of a paper, from the limits that are lacking in the answer."""
    found = []
    for limit in limits:
        if answer.earliest is None:
            keys = filling_keys(limit, deeds, answer.moment) if limit[1] in HOLDING else ()
            is_shown = is_full_for_ever(limit, deeds, request, answer.moment, keys)
        else:
            keys = filling_keys(limit, deeds, answer.earliest - 1)
            is_shown = is_full(limit, deeds, request, answer.earliest - 1, keys)
        if is_shown:
            found.append((answer.earliest, limit[0], keys))
    return found[0]


def refusal_paper(book, entries, key):
    """Return a paper for the request with the key among the entries, which is refused."""
    keeper = keeper_of(book, entries)
    answer = keeper.answer_of(key)
    if answer.is_let:
        raise InvalidPaper(f"the request {key} is let in")
    asked = [number for number, entry in enumerate(entries) if entry[:2] == ("ask", key)][0]
    deeds = deeds_of(book, entries[:asked])
    limits = [book.limit_named(name) for name in answer.lacking]
    rooms = tuple([(limit[0], filling_keys(limit, deeds, answer.moment)) for limit in limits])
    return (rooms, soonest_part(limits, deeds, entries[asked][1:4], answer))
