"""Who is in which group: chains of members, and closed lists that show that there is no chain."""

from joinedfolk.names import is_whole


def check_pair(roof, who, group):
    """Refuse what is no one that is there, then what is no group that is there."""
    roof.check_one(who)
    roof.check_group(group)


def people(roof):
    """The rising list of all people of a roof."""
    return sorted([who for who in roof.called if not roof.is_group(who)])


def counts(roof, who, group):
    """Whether a membership of one in a group counts, by the houses of both."""
    house = roof.called[who][2]
    own = roof.called[group][2]
    return house == own or house in roof.trusts[own]


def counted_groups(roof, who):
    """The groups of which one is a member by memberships that count."""
    return [group for group in roof.holders[who] if counts(roof, who, group)]


def counted_members(roof, group):
    """The members of a group by memberships that count; a person has none."""
    return [who for who in roof.inside.get(group, {}) if counts(roof, who, group)]


def steps_to(roof, group):
    """The group, and all that are in it, each with how many steps lead to the group at least."""
    steps = {group: 0}
    layer = [group]
    while layer:
        below = []
        for one in layer:
            for member in counted_members(roof, one):
                if member not in steps:
                    steps[member] = steps[one] + 1
                    below.append(member)
        layer = below
    return steps


def is_in(roof, who, group):
    """Whether one is in a group."""
    check_pair(roof, who, group)
    return group in groups_of(roof, who)


def chain(roof, who, group):
    """The least of the shortest chains from one to a group; None without one."""
    check_pair(roof, who, group)
    steps = steps_to(roof, group)
    if who == group or who not in steps:
        return None
    links = [who]
    last = who
    while last != group:
        # From each group that is one step nearer a shortest chain goes on, so the least of them may be taken.
        last = min([above for above in counted_groups(roof, last) if steps.get(above) == steps[last] - 1])
        links.append(last)
    return tuple(links)


def groups_of(roof, who):
    """The rising list of groups in which one is."""
    roof.check_one(who)
    # One is met ahead of all, so no ring leads back to it: nothing is in itself.
    met = {who: True}
    waiting = [who]
    while waiting:
        last = waiting.pop()
        for group in counted_groups(roof, last):
            if group not in met:
                met[group] = True
                waiting.append(group)
    return sorted([group for group in met if group != who])


def all_in(roof, group):
    """The rising list of people that are in a group."""
    roof.check_group(group)
    return sorted([who for who in steps_to(roof, group) if not roof.is_group(who)])


def shows_in(roof, who, group, thing):
    """Whether a thing is a chain from one to a group, be it the shortest or not."""
    check_pair(roof, who, group)
    if not isinstance(thing, tuple) or len(thing) < 2 or not all([is_whole(link) for link in thing]):
        return False
    if thing[0] != who or thing[-1] != group or len(set(thing)) != len(thing):
        return False
    return all([is_counted(roof, link, above) for link, above in zip(thing, thing[1:])])


def is_counted(roof, who, group):
    """Whether a whole number is a member of another one by a membership that counts."""
    return roof.is_group(group) and who in roof.inside[group] and counts(roof, who, group)


def outside(roof, who, group):
    """The least closed list of groups that shows that one is not in a group; None, if it is."""
    check_pair(roof, who, group)
    closed = groups_of(roof, who)
    return None if group in closed else closed


def shows_out(roof, who, group, thing):
    """Whether a thing is a closed list of groups that shows that one is not in a group."""
    check_pair(roof, who, group)
    if not isinstance(thing, list) or not all([roof.is_group(each) for each in thing]):
        return False
    if group in thing or thing != sorted(set(thing)):
        return False
    # A chain does not come back to the one, so the one need not be on the list.
    closed = set(thing + [who])
    for one in [who] + thing:
        for above in counted_groups(roof, one):
            if above not in closed:
                return False
    return True
