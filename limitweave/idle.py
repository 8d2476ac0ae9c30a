"""Whether a limit makes a difference beside another one, and a row that shows it."""

from limitweave.books import check_entries
from limitweave.errors import InvalidEntry, TooLarge
from limitweave.meters import meter_for
from limitweave.parting import in_whole_pieces, plan_for, row_of_plan


def idle_beside(limit, other):
    """Return True if each row that keeps the other limit keeps the limit, otherwise False."""
    return plan_for(limit, other) is None


def parting_row(limit, other):
    """Return a row that keeps the other limit, and that the last request of which breaks the limit, or None."""
    plan = plan_for(limit, other)
    if plan is None:
        return None
    try:
        return row_of_plan(plan)
    except TooLarge:
        # Later moments with fewer requests at each may still be within the bounds.
        spare = plan_for(limit, in_whole_pieces(other))
        if spare is None:
            raise
        return row_of_plan(spare)


def is_row(entries):
    """Return True if the list is a row of entries, otherwise False."""
    try:
        check_entries(entries)
    except InvalidEntry:
        return False
    return True


def tell(meter, entry):
    """Tell a meter of an entry. Return False if it asks and there is no room for it, otherwise True."""
    if entry[0] == "release":
        meter.released(entry[1], entry[2])
        return True
    _, key, group, cost, moment = entry
    if not meter.room(moment, group, cost):
        return False
    meter.let(moment, group, cost, key)
    return True


def keeps_limit(limit, row):
    """Return True if there is room under the limit for each request of the row, otherwise False."""
    meter = meter_for(limit)
    return all([tell(meter, entry) for entry in row])


def check_parting(limit, other, row):
    """Return True if the list is a row of entries and a parting row of the two limits, otherwise False."""
    if not row or row[-1][0] != "ask" or not is_row(row):
        return False
    return keeps_limit(other, row) and keeps_limit(limit, row[:-1]) and not keeps_limit(limit, row)
