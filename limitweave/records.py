"""Records, and their lines, in which up to two characters that were replaced are noticed."""

from limitweave.notation import parse_number

GREATEST_RECORD = 999999
LONGEST_BODY = 700
PRIME = 997
SIZE_DIGITS = 3
NUMBER_DIGITS = 6
# The space ahead of the six digits, and these.
END = 7


def check_digits(text):
    """Return the six digits that stand behind the text in the line of a record."""
    plain = sum([ord(sign) for sign in text]) % PRIME
    placed = sum([place * ord(sign) for place, sign in enumerate(text, start=1)]) % PRIME
    return f"{plain:03d}{placed:03d}"


def record_line(number, body):
    """Return the line of a record."""
    text = f"{len(body)} {number} {body}"
    return text + " " + check_digits(text)


def record_text(number, body):
    """Return the line of a record with a newline behind it."""
    return record_line(number, body) + "\n"


def is_body(text):
    """Return True if the string can be the body of a record, otherwise False."""
    return 1 <= len(text) <= LONGEST_BODY and all([" " <= sign <= "~" for sign in text])


def read_record(line):
    """Return the tuple of the number and the body of the record that has this line, or None."""
    words = line.split(" ", 2)
    if len(words) < 3:
        return None
    size = parse_number(words[0], SIZE_DIGITS)
    number = parse_number(words[1], NUMBER_DIGITS)
    body = words[2][:-END]
    if size != len(body) or number is None or not is_body(body):
        return None
    return (number, body) if record_line(number, body) == line else None


def whole_records(text):
    """Return the list of the tuples of number and body of the whole records of a text."""
    records = []
    # What stands behind the last newline is no whole line.
    for line in text.split("\n")[:-1]:
        record = read_record(line)
        if record is None or records and record[0] != records[-1][0] + 1:
            break
        records.append(record)
    return records


def whole_length(text):
    """Return how many characters the text of the whole records of a text has."""
    return sum([len(record_text(number, body)) for number, body in whole_records(text)])
