"""Shows: how many of the sold seats are claimed, and what is due beyond the room."""

from latefare.wholes import is_within, power

MOST_ROOM = 10
MOST_OF = 1000
MOST_DUE = 1000000


def is_rule(rule):
    room = rule[0]
    came = rule[1]
    of = rule[2]
    due = rule[3]
    chances_hold = is_within(of, 1, MOST_OF) and is_within(came, 0, of)
    return is_within(room, 0, MOST_ROOM) and chances_hold and is_within(due, 0, MOST_DUE)


def shows_of(sold, came, of):
    shows = [1]
    for seat in range(sold):
        shows = with_one_more(shows, came, of - came)
    return shows


def with_one_more(shows, came, stayed):
    # Of so many, either all came of the seats ahead of this one, or one fewer and this one too.
    without = [weight * stayed for weight in shows] + [0]
    along = [0] + [weight * came for weight in shows]
    return [one + other for one, other in zip(without, along)]


def ends_of(seats, rule):
    return [end_of(seats - left, left, rule) for left in range(seats + 1)]


def end_of(sold, left, rule):
    # The chances of the seats left are multiplied in so that all ends share the last scale.
    due = rule[3]
    return -due * beyond_room(sold, rule) * power(rule[2], left)


def beyond_room(sold, rule):
    room = rule[0]
    shows = shows_of(sold, rule[1], rule[2])
    return sum([weight * max(many - room, 0) for many, weight in enumerate(shows)])


def last_scale(seats, rule):
    return power(rule[2], seats)
