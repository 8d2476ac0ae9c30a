"""Making the meter of a limit."""

from limitweave.limits import BucketMeter, GapMeter, HeldMeter, SpanMeter, WindowMeter
from limitweave.pools import PoolMeter


def meter_for(limit):
    """Return a new meter of the class for the limit's word."""
    word = limit[1]
    if word == "window":
        return WindowMeter(limit)
    if word == "span":
        return SpanMeter(limit)
    if word == "bucket":
        return BucketMeter(limit)
    if word == "gap":
        return GapMeter(limit)
    if word == "held":
        return HeldMeter(limit)
    return PoolMeter(limit)


def meter_from(limit, state, moment):
    """Return a meter with this state at this moment."""
    meter = meter_for(limit)
    meter.resume(state, moment)
    return meter
