"""Tables of what a book decides of a row of entries."""

from limitweave.notation import format_answer
from limitweave.replays import answers_for


def refusal_table(book, entries):
    """Return a line for each limit of the book, with the number of requests that it refuses."""
    answers = answers_for(book, entries)
    names = book.limit_names
    counts = [str(len([answer for answer in answers if name in answer.lacking])) for name in names]
    name_width = max([len(name) for name in names])
    count_width = max([len(count) for count in counts])
    return "\n".join([f"{name.ljust(name_width)} {count.rjust(count_width)}" for name, count in zip(names, counts)])


def group_line(group, many, costs):
    """Return the line for a group, with the number of its requests and the costs of those that were let in."""
    return f"{group}: {many} asked, {len(costs)} let, {many - len(costs)} refused, cost {sum(costs)}"


def group_table(book, entries):
    """Return a line for each group that a request among the entries has, with its numbers and its cost."""
    answers = answers_for(book, entries)
    counts = {}
    costs = {}
    for entry, answer in zip([entry for entry in entries if entry[0] == "ask"], answers):
        _, _, group, cost, _ = entry
        counts[group] = counts.get(group, 0) + 1
        costs.setdefault(group, []).extend([cost] if answer.is_let else [])
    return "\n".join([group_line(group, counts[group], costs[group]) for group in sorted(counts)])


def answer_lines(answers):
    """Return the written forms of some answers, joined by newlines."""
    return "\n".join([format_answer(answer) for answer in answers])


def answer_table(book, entries):
    """Return a line for each request among the entries, with its answer."""
    return answer_lines(answers_for(book, entries))
