"""The bodies of the records of a journal: entries, views, and the heads and rows of snapshots."""

from limitweave.books import is_ascending, is_moment, is_name, is_request, is_within
from limitweave.notation import MOMENT_DIGITS, parse_entry, parse_number

NONE = "none"
NEVER = "never"
GREATEST_COUNT = 999999
COUNT_DIGITS = 6
COST_DIGITS = 4
EARLIEST_DIGITS = 12
MOST_NAMES = 8


def word_for(number, absent):
    """Return the word for a number, or the word for None."""
    return absent if number is None else str(number)


def view_words(view):
    """Return the list of the words of a view."""
    number, due, houses = view
    return [str(number), word_for(due, NONE)] + list(houses)


def view_body(view):
    """Return the body of a view, a tuple of a number, a due and a tuple of houses."""
    return " ".join(["view"] + view_words(view))


def row_body(row):
    """Return the body of a row of a snapshot for a row of a keeper."""
    key, group, cost, moment, lacking, earliest, is_released = row
    words = ["key", key, group, str(cost), str(moment)]
    if lacking:
        words.extend(["refused", word_for(earliest, NEVER), ",".join(lacking)])
    else:
        words.append("back" if is_released else "let")
    return " ".join(words)


def head_body(many, entries, moment, view):
    """Return the body of the head of a snapshot."""
    words = ["keep", str(many), str(entries), word_for(moment, NONE)]
    return " ".join(words if view is None else words + view_words(view))


def is_count(number):
    """Return True for an integer from 0 to 999999, otherwise False."""
    return is_within(number, 0, GREATEST_COUNT)


def is_view(view):
    """Return True if the three parts of the tuple are those of a view, otherwise False."""
    number, due, houses = view
    if not is_count(number) or not (due is None or is_count(due)):
        return False
    if not 1 <= len(houses) <= MOST_NAMES or not all([is_name(house) for house in houses]):
        return False
    return len(set(houses)) == len(houses)


def read_view(words):
    """Return the view that the words write, or None."""
    if len(words) < 3:
        return None
    number = parse_number(words[0], COUNT_DIGITS)
    due = parse_number(words[1], COUNT_DIGITS)
    if due is None and words[1] != NONE:
        return None
    view = (number, due, tuple(words[2:]))
    return view if is_view(view) else None


def read_head(words):
    """Return the tuple of MANY, ENTRIES, the moment and the view that the words write, or None."""
    if len(words) < 3:
        return None
    many = parse_number(words[0], COUNT_DIGITS)
    entries = parse_number(words[1], COUNT_DIGITS)
    moment = parse_number(words[2], MOMENT_DIGITS)
    if many is None or entries is None or not (is_moment(moment) or words[2] == NONE):
        return None
    view = read_view(words[3:])
    if view is None and len(words) > 3:
        return None
    return (many, entries, moment, view)


def read_decision(words, moment):
    """Return the lacking, the earliest and whether it is released that the last words of a row write, or None."""
    if words == ["let"] or words == ["back"]:
        return ((), moment, words == ["back"])
    if len(words) != 3 or words[0] != "refused":
        return None
    earliest = parse_number(words[1], EARLIEST_DIGITS)
    if words[1] != NEVER and (earliest is None or earliest <= moment):
        return None
    names = words[2].split(",")
    if len(names) > MOST_NAMES or not all([is_name(name) for name in names]) or not is_ascending(names):
        return None
    return (tuple(names), earliest, False)


def read_row(words):
    """Return the row of a keeper that the words write, or None."""
    if len(words) < 5:
        return None
    key, group = words[:2]
    cost = parse_number(words[2], COST_DIGITS)
    moment = parse_number(words[3], MOMENT_DIGITS)
    if not is_request(key, group, cost) or not is_moment(moment):
        return None
    decision = read_decision(words[4:], moment)
    return None if decision is None else (key, group, cost, moment) + decision


def read_body(body):
    """Return the tuple of a word for the kind of the body and of what it writes, or None if it is of no kind."""
    words = body.split(" ")
    word = words[0]
    if word == "view":
        told = read_view(words[1:])
    elif word == "keep":
        told = read_head(words[1:])
    elif word == "key":
        told = read_row(words[1:])
    else:
        word, told = "entry", parse_entry(body)
    return None if told is None else (word, told)
