"""A roof: houses, their people and groups, and the deeds that change them."""

from joinedfolk.errors import BadName, NoHouse, NoOne, Nothing, Taken
from joinedfolk.ledgers import Ledger
from joinedfolk.names import MOST_SIGNS, is_kind, is_name, is_whole, is_word

RANGE_SIZE = 100
FIRST_RANGE = 100


def numbered(word, number):
    """A word with a number behind it, cut so that all is a word."""
    figures = str(number)
    return word[:MOST_SIGNS - len(figures)] + figures


class Roof:
    """Houses with people and groups, who is a member of what, and who trusts whom.

    Every deed first refuses what must be refused, then notes itself, and then
    changes the dicts below through the ledger alone: so a refused deed changes
    nothing, and any deed can be taken back.
    """

    def __init__(self):
        # A house: the first numbers of its ranges, latest last.
        self.homes = {}
        # A range's first number: how many of the range were given, always its least ones.
        self.given = {}
        # A number: its name; and a name: its number.
        self.called = {}
        self.bearers = {}
        # A group: its members; and a number: the groups that it is a member of.
        self.inside = {}
        self.holders = {}
        # A house: those that it trusts.
        self.trusts = {}
        # All deeds that were done and not taken back, each with its arguments as handed in.
        self.deeds = []
        self.ledger = Ledger()

    def __eq__(self, other):
        if not isinstance(other, Roof):
            return False
        if self.homes != other.homes or self.given != other.given:
            return False
        if self.called != other.called or self.inside != other.inside:
            return False
        return self.trusts == other.trusts

    def found(self, house):
        """Found a house."""
        if not is_word(house):
            raise BadName("this is no word")
        if house in self.homes:
            raise Taken(house)
        self.note(("found", house))
        self.add_range(house)
        self.ledger.put(self.trusts, house, {})

    def come(self, kind, word, house):
        """A person or group comes to be in a house; told is its number."""
        if not is_kind(kind):
            raise BadName("this is no kind")
        if not is_word(word):
            raise BadName("this is no word")
        self.check_house(house)
        name = (kind, word, house)
        if name in self.bearers:
            raise Taken(name)
        self.note(("come", kind, word, house))
        who = self.give_number(house)
        self.ledger.put(self.called, who, name)
        self.ledger.put(self.bearers, name, who)
        self.ledger.put(self.holders, who, {})
        if kind == "group":
            self.ledger.put(self.inside, who, {})
        return who

    def go(self, who):
        """A person or group is no more."""
        self.check_one(who)
        self.note(("go", who))
        for group in list(self.holders[who]):
            self.part(who, group)
        if self.is_group(who):
            for member in list(self.inside[who]):
                self.part(member, who)
            self.ledger.drop(self.inside, who)
        self.ledger.drop(self.holders, who)
        self.ledger.drop(self.bearers, self.called[who])
        self.ledger.drop(self.called, who)

    def put_in(self, who, group):
        """One is a member of a group from then on."""
        self.check_one(who)
        self.check_group(group)
        self.note(("put_in", who, group))
        self.ledger.put(self.inside[group], who, True)
        self.ledger.put(self.holders[who], group, True)

    def take_out(self, who, group):
        """One is no member of a group any more."""
        self.check_one(who)
        self.check_group(group)
        self.note(("take_out", who, group))
        if who in self.inside[group]:
            self.part(who, group)

    def call(self, who, word):
        """One gets another word in its house; told is its name."""
        self.check_one(who)
        if not is_word(word):
            raise BadName("this is no word")
        kind, before, house = self.called[who]
        name = (kind, word, house)
        if name in self.bearers:
            raise Taken(name)
        self.note(("call", who, word))
        self.rename(who, name)
        return name

    def move(self, who, house, *, word=None):
        """One is of a house from then on, by a word or its own; told is its name."""
        self.check_one(who)
        self.check_house(house)
        if word is not None and not is_word(word):
            raise BadName("this is no word")
        kind, own, before = self.called[who]
        name = (kind, own if word is None else word, house)
        if self.bearers.get(name, who) != who:
            raise Taken(name)
        self.note(("move", who, house, word))
        self.rename(who, name)
        return name

    def merge(self, house, other):
        """All of a house are of the other one, and the house is no more; told is who came."""
        self.check_two(house, other)
        self.note(("merge", house, other))
        came = []
        for who in self.everyone(house):
            name = self.free_name(who, other)
            self.rename(who, name)
            came.append((who, name))
        self.ledger.put(self.homes, other, self.homes[house] + self.homes[other])
        self.ledger.drop(self.homes, house)
        self.hand_on_trust(house, other)
        return came

    def trust(self, house, other):
        """A house trusts another one."""
        self.check_two(house, other)
        self.note(("trust", house, other))
        self.ledger.put(self.trusts[house], other, True)

    def mistrust(self, house, other):
        """A house trusts another one no more."""
        self.check_two(house, other)
        self.note(("mistrust", house, other))
        if other in self.trusts[house]:
            self.ledger.drop(self.trusts[house], other)

    def take_back(self):
        """The last deed is as if it had not been."""
        if not self.deeds:
            raise Nothing("there is no deed to take back")
        self.deeds.pop()
        self.ledger.undo()

    def time(self):
        """How many deeds were done."""
        return len(self.deeds)

    def houses(self):
        """The rising list of houses."""
        return sorted(self.homes)

    def ranges(self, house):
        """The first numbers of a house's ranges, latest last."""
        self.check_house(house)
        return list(self.homes[house])

    def everyone(self, house):
        """The rising list of the people and groups of a house."""
        self.check_house(house)
        return sorted([who for who, name in self.called.items() if name[2] == house])

    def name(self, who):
        """The name of a person or group."""
        self.check_one(who)
        return self.called[who]

    def number(self, name):
        """The number of the one that has a name."""
        if not is_name(name):
            raise BadName("this is no name")
        if name not in self.bearers:
            raise NoOne(name)
        return self.bearers[name]

    def members(self, group):
        """The rising list of a group's members."""
        self.check_group(group)
        return sorted(self.inside[group])

    def trusted(self, house):
        """The rising list of those that a house trusts."""
        self.check_house(house)
        return sorted(self.trusts[house])

    def is_group(self, who):
        """Whether a thing is the number of a group that is there."""
        return is_whole(who) and who in self.inside

    def check_one(self, who):
        """Refuse what is no number of one that is there."""
        if not is_whole(who) or who not in self.called:
            raise NoOne(who)

    def check_group(self, group):
        """Refuse what is no number of a group that is there."""
        if not self.is_group(group):
            raise NoOne(group)

    def check_house(self, house):
        """Refuse what is no house that is there."""
        if not isinstance(house, str) or house not in self.homes:
            raise NoHouse("there is no such house")

    def check_two(self, house, other):
        """Refuse what are not two houses that are there."""
        self.check_house(house)
        self.check_house(other)
        if house == other:
            raise NoHouse("there is no other house")

    def note(self, row):
        """Note a deed that is about to be done."""
        self.deeds.append(row)
        self.ledger.begin()

    def add_range(self, house):
        """Give a house the next range of all, and tell its first number."""
        # No range is ever lost, so how many there are tells which one is next.
        first = FIRST_RANGE + RANGE_SIZE * len(self.given)
        self.ledger.put(self.homes, house, self.homes.get(house, ()) + (first,))
        self.ledger.put(self.given, first, 0)
        return first

    def give_number(self, house):
        """Give the next number of a house."""
        latest = self.homes[house][-1]
        if self.given[latest] == RANGE_SIZE:
            latest = self.add_range(house)
        many = self.given[latest]
        self.ledger.put(self.given, latest, many + 1)
        return latest + many

    def part(self, who, group):
        """End a membership that is there."""
        self.ledger.drop(self.inside[group], who)
        self.ledger.drop(self.holders[who], group)

    def rename(self, who, name):
        """Give one a name that is free or its own."""
        self.ledger.drop(self.bearers, self.called[who])
        self.ledger.put(self.bearers, name, who)
        self.ledger.put(self.called, who, name)

    def free_name(self, who, house):
        """The name by which one comes into a house that is merged with its own."""
        kind, word, before = self.called[who]
        name = (kind, word, house)
        number = 2
        while name in self.bearers:
            name = (kind, numbered(word, number), house)
            number += 1
        return name

    def hand_on_trust(self, house, other):
        """Let all trust from and to a house be from and to the other one, and drop the house's."""
        for truster in self.houses():
            if house in self.trusts[truster]:
                self.ledger.drop(self.trusts[truster], house)
                if truster != other:
                    self.ledger.put(self.trusts[truster], other, True)
        for friend in list(self.trusts[house]):
            if friend != other:
                self.ledger.put(self.trusts[other], friend, True)
        self.ledger.drop(self.trusts, house)
