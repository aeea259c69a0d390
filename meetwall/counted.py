"""Counted meetings: so many of those that come meet, whoever they are, and whether all come through."""

from meetwall.errors import NoCount
from meetwall.houses import is_tuple_within, is_within
from meetwall.plans import is_name
from meetwall.reach import rows_to_all

MOST_AT_ONCE = 5
MOST_COUNTS = 5
MOST_WANTED = 4
# Each of five hands wants to meet from 0 to 4 times.
MOST_STANDS = 3125


def are_wanted(counts):
    return all([is_within(count, 0, MOST_WANTED) for count in counts])


def is_counted(thing):
    if not is_tuple_within(thing, 2, 2) or not is_within(thing[0], 1, MOST_AT_ONCE):
        return False
    return is_tuple_within(thing[1], 1, MOST_COUNTS) and are_wanted(thing[1])


def need_counted(thing):
    if not is_counted(thing):
        raise NoCount("this is no counted meeting")


def wanting(stand):
    return [hand for hand, count in enumerate(stand) if count > 0]


# All rising tuples of k hands that want to meet.
def groups(k, stand):
    found = [()]
    for hand in wanting(stand):
        found = found + [group + (hand,) for group in found if len(group) < k]
    return [group for group in found if len(group) == k]


def met(stand, group):
    return tuple([count - 1 if hand in group else count for hand, count in enumerate(stand)])


def steps_from(k, stand):
    return [(group, met(stand, group)) for group in groups(k, stand)]


def leaves_some(k, stand):
    return 0 < len(wanting(stand)) < k


# Those that want to meet most go first: so nobody is ever wanting more often than there are meetings to come.
def even_row(k, counts):
    row = []
    stand = counts
    while sum(stand) > 0:
        by_want = sorted([(-count, hand) for hand, count in enumerate(stand)])
        group = tuple(sorted([hand for count, hand in by_want[:k]]))
        row.append(group)
        stand = met(stand, group)
    return row


# The counts behind the row; None where it is no row of meetings.
def stand_by(meeting, row):
    if not isinstance(row, list) or not all([is_name(group) for group in row]):
        return None
    stand = meeting[1]
    for group in row:
        if group not in groups(meeting[0], stand):
            return None
        stand = met(stand, group)
    return stand


def can(meeting):
    need_counted(meeting)
    k = meeting[0]
    counts = meeting[1]
    if sum(counts) % k != 0:
        return ("cannot", None)
    too_great = [hand for hand, count in enumerate(counts) if count > sum(counts) // k]
    if too_great:
        return ("cannot", too_great[0])
    return ("can", even_row(k, counts))


def ever(meeting):
    need_counted(meeting)
    k = meeting[0]
    rows = rows_to_all(meeting[1], lambda stand: steps_from(k, stand), MOST_STANDS)
    for stand, row in rows.items():
        if leaves_some(k, stand):
            return ("left", row)
    return ("ever", list(rows))


def is_row(meeting, row):
    need_counted(meeting)
    stand = stand_by(meeting, row)
    return stand is not None and len(wanting(stand)) == 0


def is_left(meeting, row):
    need_counted(meeting)
    stand = stand_by(meeting, row)
    return stand is not None and leaves_some(meeting[0], stand)


def is_stand_like(counts, thing):
    return is_tuple_within(thing, len(counts), len(counts)) and are_wanted(thing)


def is_closed_at(k, stand, listed):
    return all([stand_behind in listed for group, stand_behind in steps_from(k, stand)])


def are_ever(meeting, stands):
    need_counted(meeting)
    k = meeting[0]
    counts = meeting[1]
    if not isinstance(stands, list) or not all([is_stand_like(counts, stand) for stand in stands]):
        return False
    listed = dict([(stand, True) for stand in stands])
    if len(listed) != len(stands) or counts not in listed or any([leaves_some(k, stand) for stand in stands]):
        return False
    return all([is_closed_at(k, stand, listed) for stand in stands])
