"""When the numbers that come of putting one lead in again and again exceed a bound."""

# The lengths of all circles through at most six states divide this.
ROUND = 60
# Over so many leads each way comes by a state that may be led back to itself.
START = 6


def first_beyond(counts, lead, ends, most):
    """Return the least n so that counts, led n times, come to more than `most` at the ends.

    There is such an n, not greater than `most` + 1. The numbers need not
    grow from each n to the next one. But from n to n + ROUND they do not get
    less, if n is at least START: the first state on a way that may be led
    back to itself can be gone round once more.
    """
    starts = []
    for times in range(START + ROUND):
        if reached(counts, ends) > most:
            return times
        starts.append(counts)
        counts = led_by(counts, lead, most + 1)
    rounds = rounds_of(starts[START], lead, ends, most)
    found = []
    for times in range(START, START + ROUND):
        found.append(times + ROUND * (1 + most_rounds(starts[times], rounds, ends, most)))
    return min(found)


def reached(counts, ends):
    """Return to how much some counts come at the ends."""
    return sum([count * end for count, end in zip(counts, ends)])


def led_by(counts, lead, cap):
    """Return the counts to which others are led, with `cap` in the place of greater ones."""
    found = [0] * len(counts)
    for count, row in zip(counts, lead):
        if count:
            for state, many in enumerate(row):
                found[state] += count * many
    return [min(count, cap) for count in found]


def rounds_of(counts, lead, ends, most):
    """Return the leads of ROUND times 1, 2, 4, 8, .. of a lead, until some counts come to more than `most`.

    With counts from elsewhere it may take longer, but this is as far as is
    asked.
    """
    cap = most + 1
    whole = lead
    for _ in range(ROUND - 1):
        whole = [led_by(row, lead, cap) for row in whole]
    rounds = [whole]
    while reached(led_by(counts, whole, cap), ends) <= most:
        whole = [led_by(row, whole, cap) for row in whole]
        rounds.append(whole)
    return rounds


def most_rounds(counts, rounds, ends, most):
    """Return the greatest number of rounds, as far as is asked, behind which counts come to at most `most`."""
    number = 0
    for at in range(len(rounds) - 1, -1, -1):
        further = led_by(counts, rounds[at], most + 1)
        if reached(further, ends) <= most:
            counts = further
            number += 1 << at
    return number
