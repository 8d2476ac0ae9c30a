"""The written forms of books, entries and answers."""

from limitweave.books import LEAST_NUMBERS, MOST_LIMITS, Book, check_entries, check_limit, is_entry
from limitweave.errors import InvalidEntry, InvalidLimit, InvalidName, InvalidNotation

DIGITS = "0123456789"
NUMBER_DIGITS = 7
MOMENT_DIGITS = 10


def format_limit(limit):
    """Return the line that writes the limit."""
    name, word, groups, numbers = limit
    words = [name, word, str(numbers[0])]
    if word == "pool":
        words.extend([f"{group}:{own}:{ceiling}" for group, own, ceiling in numbers[1]])
    else:
        words.extend([str(number) for number in numbers[1:]])
    if groups:
        words.append("for")
        words.extend(groups)
    return " ".join(words)


def format_book(book):
    """Return the written form of the book, a line for each limit."""
    return "\n".join([format_limit(limit) for limit in book.limits])


def format_entry(entry):
    """Return the line that writes the entry."""
    return " ".join([str(part) for part in entry])


def format_entries(entries):
    """Return the written form of the row of entries, a line for each of them."""
    return "\n".join([format_entry(entry) for entry in entries])


def format_answer(answer):
    """Return the line that writes the answer."""
    if answer.is_let:
        return f"{answer.key} let {answer.moment}"
    earliest = "never" if answer.earliest is None else str(answer.earliest)
    names = ",".join(answer.lacking)
    return f"{answer.key} refused {answer.moment} {earliest} {names}"


def parse_number(word, digits):
    """Return the number that the word writes with at most so many digits, or None if it writes none."""
    if not 1 <= len(word) <= digits or not all([sign in DIGITS for sign in word]):
        return None
    if word[0] == "0" and word != "0":
        return None
    return int(word)


def parse_share(word):
    """Return what the word writes for a share. What is no number is None, so that it makes no share."""
    parts = word.split(":")
    return tuple([parts[0]] + [parse_number(part, NUMBER_DIGITS) for part in parts[1:]])


def parse_groups(words):
    """Return the tuple of the groups that stand in the last words of a line, or None if these are wrong."""
    if not words:
        return ()
    if words[0] != "for" or len(words) == 1:
        return None
    return tuple(words[1:])


def read_limit(words):
    """Return what the words say of a limit, which may break the rules of limits, or None."""
    name, word = words[:2]
    if word == "pool":
        shares = tuple([parse_share(share) for share in words[3:]])
        return (name, word, (), (parse_number(words[2], NUMBER_DIGITS), shares))
    if word not in LEAST_NUMBERS:
        return None
    end = 2 + len(LEAST_NUMBERS[word])
    groups = parse_groups(words[end:])
    if groups is None:
        return None
    return (name, word, groups, tuple([parse_number(number, NUMBER_DIGITS) for number in words[2:end]]))


def parse_limit(line):
    """Return the limit that the line writes, or None if it writes none."""
    words = line.split(" ")
    if len(words) < 3:
        return None
    limit = read_limit(words)
    if limit is None:
        return None
    try:
        check_limit(limit)
    except (InvalidName, InvalidLimit):
        return None
    return limit


def parse_book(text):
    """Return the book that the text writes, with its limits in any order."""
    limits = []
    for number, line in enumerate(text.split("\n"), start=1):
        limit = parse_limit(line)
        if limit is None or number > MOST_LIMITS or limit[0] in [known[0] for known in limits]:
            raise InvalidNotation(number)
        limits.append(limit)
    return Book(limits)


def parse_entry(line):
    """Return the entry that the line writes, or None if it writes none."""
    words = line.split(" ")
    moment = parse_number(words[-1], MOMENT_DIGITS)
    if len(words) == 5:
        entry = (words[0], words[1], words[2], parse_number(words[3], NUMBER_DIGITS), moment)
    else:
        entry = tuple(words[:-1] + [moment])
    return entry if is_entry(entry) else None


def leading_entries(lines):
    """Return the list of the entries that the lines write, up to the first line that writes none."""
    entries = []
    for line in lines:
        entry = parse_entry(line)
        if entry is None:
            break
        entries.append(entry)
    return entries


def parse_entries(text):
    """Return the row of entries that the text writes."""
    if text == "":
        return []
    lines = text.split("\n")
    entries = leading_entries(lines)
    try:
        check_entries(entries)
    except InvalidEntry as error:
        raise InvalidNotation(error.number + 1) from None
    if len(entries) < len(lines):
        raise InvalidNotation(len(entries) + 1)
    return entries
