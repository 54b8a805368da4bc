"""Times: the journal of a roof, what held at any time, and by which deed it came to be so."""

from joinedfolk.chains import groups_of, is_in, people
from joinedfolk.errors import BadJournal, BadTime, RoofError
from joinedfolk.names import is_whole
from joinedfolk.roofs import Roof
from joinedfolk.texts import is_row


def journal(roof):
    """The list of all deeds of a roof."""
    return list(roof.deeds)


def do_row(roof, row):
    """Do the deed of a row on a roof."""
    deed, *parts = row
    if deed == "found":
        roof.found(parts[0])
    elif deed == "come":
        roof.come(parts[0], parts[1], parts[2])
    elif deed == "go":
        roof.go(parts[0])
    elif deed == "put_in":
        roof.put_in(parts[0], parts[1])
    elif deed == "take_out":
        roof.take_out(parts[0], parts[1])
    elif deed == "call":
        roof.call(parts[0], parts[1])
    elif deed == "move":
        roof.move(parts[0], parts[1], word=parts[2])
    elif deed == "merge":
        roof.merge(parts[0], parts[1])
    elif deed == "trust":
        roof.trust(parts[0], parts[1])
    else:
        roof.mistrust(parts[0], parts[1])


def played(rows):
    """A new roof on which the deeds of a journal were done."""
    if not isinstance(rows, list):
        raise BadJournal(None)
    roof = Roof()
    for place, row in enumerate(rows):
        # No deed takes what is wrong by its form, so that is refused here for all of them.
        if not is_row(row):
            raise BadJournal(place)
        try:
            do_row(roof, row)
        except RoofError:
            raise BadJournal(place) from None
    return roof


def check_time(roof, time):
    """Refuse what is no time of a roof."""
    if not is_whole(time) or time < 0 or time > roof.time():
        raise BadTime("the roof had no such time")


def as_of(roof, time):
    """A new roof as a roof was at a time."""
    check_time(roof, time)
    return played(roof.deeds[:time])


def all_pairs(roof):
    """All tuples (person, group) of which the person is in the group."""
    return [(who, group) for who in people(roof) for group in groups_of(roof, who)]


def changed(roof, early, late):
    """Who came to be in which group, or out of it, between two times."""
    check_time(roof, early)
    check_time(roof, late)
    if early > late:
        raise BadTime("the early time is above the late one")
    before = all_pairs(as_of(roof, early))
    after = all_pairs(as_of(roof, late))
    came = [(who, group, "in") for who, group in sorted(set(after) - set(before))]
    went = [(who, group, "out") for who, group in sorted(set(before) - set(after))]
    return sorted(came + went)


def was_in(past, who, group):
    """Whether both were there and one was in the group, on a roof as it was."""
    return who in past.called and past.is_group(group) and is_in(past, who, group)


def since(roof, who, group):
    """The least time from which on till now one was in a group; None, if it isn't in."""
    if not is_in(roof, who, group):
        return None
    past = as_of(roof, roof.time())
    # At time 0 nobody is there, so this ends.
    while was_in(past, who, group):
        past.take_back()
    return past.time() + 1


def blamed(roof, who, group):
    """The row of the deed by which one came to be in a group; None, if it isn't in."""
    time = since(roof, who, group)
    return None if time is None else roof.deeds[time - 1]
