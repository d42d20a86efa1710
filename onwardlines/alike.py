"""Two lines compared: which one arrives earlier, for how many starts, by how much."""

from onwardlines.lines import check_fitting


def in_order(one, other):
    """Return the two lines, the one with the lesser headway first."""
    return (one, other) if one.every <= other.every else (other, one)


def gap(small, great):
    """Return how far a departure of the small line is behind the great line's one, at the least."""
    return (small.at - great.at) % small.every


def waits_with(small, great, least):
    """Return how many waits for the great line make the small one arrive so much later at least."""
    # The longer one waits for the great line, the earlier the small line is in
    # comparison, so these waits are 0, 1, 2 and so on.
    greatest = small.ride - great.ride + gap(small, great)
    longest = ((greatest - least) // small.every + 1) * small.every - gap(small, great)
    return max(0, min(great.every, longest))


def block(one, other, least):
    """Return first and length of the starts in a row for which one arrives so much later at least.

    They come again in every greater headway; the length is 0 if there are none.
    """
    if one.every <= other.every:
        many = waits_with(one, other, least)
        return (other.at - many + 1, many)
    # Here the other line is at most - least later than this one.
    many = waits_with(other, one, 1 - least)
    return (one.at + 1, one.every - many)


def first_in(first, length, every, time):
    """Return the least number from a time on in blocks that come again every so often."""
    if (time - first) % every < length:
        return time
    return time + (first - time) % every


def differences(one, other):
    """Return the least and the greatest difference of the arrivals, and the step between them."""
    check_fitting(one.every, other.every)
    small, great = in_order(one, other)
    greatest = small.ride - great.ride + gap(small, great)
    steps = (gap(small, great) + great.every - 1) // small.every
    least = greatest - steps * small.every
    step = small.every if steps > 0 else 0
    if one.every <= other.every:
        return (least, greatest, step)
    return (-greatest, -least, step)


def worst_start(one, other):
    """Return the least start from 0 on with the greatest difference."""
    greatest = differences(one, other)[1]
    first, length = block(one, other, greatest)
    return first_in(first, length, max(one.every, other.every), 0)


def count_starts(one, other):
    """Return for how many starts one arrives earlier than other, equally early, later."""
    check_fitting(one.every, other.every)
    earlier = block(other, one, 1)[1]
    later = block(one, other, 1)[1]
    return (earlier, max(one.every, other.every) - earlier - later, later)


def first_earlier(one, other, time):
    """Return the least start from a time on for which one arrives earlier, or None."""
    check_fitting(one.every, other.every)
    first, length = block(other, one, 1)
    if length == 0:
        return None
    return first_in(first, length, max(one.every, other.every), time)
