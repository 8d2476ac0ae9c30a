"""Books and rows of entries that are drawn for tests, always the same ones for the same seed."""

from limitweave.books import Book

GROUPS = ("a", "b", "c")


def draw_limit(draw, name, word):
    groups = draw.choice(((), (), ("a",), ("a", "b"), ("b", "c")))
    if word == "window":
        return (name, word, groups, (draw.randint(0, 9), draw.randint(1, 12)))
    if word == "span":
        return (name, word, groups, (draw.randint(0, 9), draw.randint(1, 12)))
    if word == "bucket":
        return (name, word, groups, (draw.randint(0, 8), draw.randint(1, 6)))
    if word == "gap":
        return (name, word, groups, (draw.randint(1, 6),))
    if word == "held":
        return (name, word, groups, (draw.randint(0, 12),))
    shares = []
    for group in GROUPS:
        if draw.random() < 0.7 or group == "c" and not shares:
            own = draw.randint(0, 4)
            shares.append((group, own, own + draw.randint(0, 6)))
    return (name, word, (), (sum(share[1] for share in shares) + draw.randint(0, 6), tuple(shares)))


def draw_book(draw, most=8):
    words = [draw.choice(("window", "span", "bucket", "gap", "held", "pool")) for _ in range(draw.randint(1, most))]
    names = draw.sample(("day", "hour", "slow", "z", "a1", "b", "room", "pool", "x9"), len(words))
    return Book([draw_limit(draw, name, word) for name, word in zip(names, words)])


def draw_entries(draw, many, first=0, steps=(0, 0, 0, 1, 1, 2, 3, 8), stem="k"):
    """A row of entries, with releases of keys that may be refused or released already."""
    row, asked, moment = [], [], first
    for number in range(many):
        moment += draw.choice(steps) if row else 0
        if asked and draw.random() < 0.3:
            row.append(("release", draw.choice(asked), moment))
        else:
            key = f"{stem}{number}"
            asked.append(key)
            row.append(("ask", key, draw.choice(GROUPS), draw.choice((1, 1, 2, 2, 3, 5, 9)), moment))
    return row
