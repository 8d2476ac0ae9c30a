"""What a journal is, from point 46, over all records each time; and journals that are drawn for tests."""

from drawing import draw_book, draw_entries
from limitweave.bodies import read_body
from limitweave.journal import Journal
from limitweave.keeper import Keeper
from limitweave.records import record_text


def text_of(records):
    return "".join(record_text(number, body) for number, body in records)


def numbered(bodies, first=0):
    return [(first + at, body) for at, body in enumerate(bodies)]


def parts_of(bodies):
    """The list of (place, word, told), with ("keep", (head, rows)) for a whole snapshot; None if there is no such list."""
    parts, at = [], 0
    while at < len(bodies):
        read = read_body(bodies[at])
        if read is None or read[0] == "key":
            return None
        if read[0] == "keep":
            rows = [read_body(body) for body in bodies[at + 1:at + 1 + read[1][0]]]
            if len(rows) != read[1][0] or any(row is None or row[0] != "key" for row in rows):
                return None
            parts.append((at, "keep", (read[1], [row[1] for row in rows])))
            at += len(rows)
        else:
            parts.append((at,) + read)
        at += 1
    return parts


def may_begin(head, rows):
    many, entries, moment, _ = head
    keys, moments = [row[0] for row in rows], [row[3] for row in rows]
    if len(set(keys)) != len(keys) or moments != sorted(moments):
        return False
    if [many == 0, entries == 0, moment is None] not in ([True] * 3, [False] * 3):
        return False
    return many <= entries and all(then <= moment for then in moments)


def make_a_row(rows, moment, entries):
    """Whether the entries make a row together with what a snapshot at the beginning tells."""
    known, last = {row[0] for row in rows}, moment or 0
    for entry in entries:
        if entry[-1] < last or (entry[1] in known) != (entry[0] == "release"):
            return False
        last = entry[-1]
        known.add(entry[1])
    return True


def views_agree(views):
    for earlier, later in zip(views, views[1:]):
        if later[0] < earlier[0] or later[0] == earlier[0] and later[2] != earlier[2]:
            return False
    dues = [view[1] for view in views]
    return all(due == later for at, due in enumerate(dues) if due is not None for later in dues[at:])


def tells_what_is_ahead(head, rows, ahead):
    """Point 45, and what point 46 says of requests that were let in."""
    begin = ahead[0][2] if ahead[0][1] == "keep" else ((0, 0, None, None), [])
    entries = [told for _, word, told in ahead if word == "entry"]
    views = [begin[0][3]] + [told for _, word, told in ahead if word == "view"]
    asked = [row[:4] for row in begin[1]] + [entry[1:] for entry in entries if entry[0] == "ask"]
    moments = [begin[0][2]] + [entry[-1] for entry in entries]
    if head != (len(asked), begin[0][1] + len(entries), moments[-1], views[-1]) or [row[:4] for row in rows] != asked:
        return False
    earlier = [row for _, word, told in ahead if word == "keep" for row in told[1]]
    for row in rows:
        said = ["refused" if old[4] else "back" if old[6] else "let" for old in earlier if old[0] == row[0]]
        if "refused" in said and not row[4] or ("let" in said or "back" in said) and row[4]:
            return False
        is_released = ("release", row[0]) in [entry[:2] for entry in entries] or "back" in said
        if not row[4] and row[6] != is_released:
            return False
    return True


def is_journal(records):
    """Whether records whose numbers ascend by 1 are a journal."""
    if not records:
        return True
    parts = parts_of([body for _, body in records])
    if parts is None or records[0][0] != 0 and parts[0][1] != "keep":
        return False
    head, rows = parts[0][2] if parts[0][1] == "keep" else ((0, 0, None, None), [])
    if not may_begin(head, rows):
        return False
    if not make_a_row(rows, head[2], [told for _, word, told in parts if word == "entry"]):
        return False
    views = [told for _, word, told in parts if word == "view"]
    if not views_agree(([head[3]] if head[3] else []) + views):
        return False
    return all(
        tells_what_is_ahead(told[0], told[1], parts[:at])
        for at, (_, word, told) in enumerate(parts) if word == "keep" and at > 0
    )


def longest_journal(records):
    return max((records[:end] for end in range(len(records) + 1) if is_journal(records[:end])), key=len)


def draw_view(draw, last):
    """A view that may follow the last one."""
    if last is None:
        return (draw.choice((0, 1, 5)), draw.choice((None, None, 0, 3)), tuple(draw.sample("abcdef", draw.randint(1, 3))))
    number, due, houses = last
    due = draw.choice((None, 2)) if due is None else due
    if draw.random() < 0.3:
        return (number, due, houses)
    return (number + draw.choice((1, 1, 4)), due, tuple(draw.sample("abcdef", draw.randint(1, 3))))


def draw_journal(draw, many, snapshots=0.15):
    """A journal whose snapshots are those of a keeper, and this keeper."""
    keeper, journal = Keeper(draw_book(draw, 3)), Journal()
    for entry in draw_entries(draw, many):
        if draw.random() < 0.2:
            journal.write_view(draw_view(draw, journal.last_view()))
        if draw.random() < snapshots:
            journal.write_snapshot(keeper)
        journal.write(entry)
        if entry[0] == "ask":
            keeper.ask(entry[1:4], entry[4])
        else:
            keeper.release(entry[1], entry[2])
    return journal, keeper
