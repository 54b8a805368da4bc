"""Rules: who may do what, and why."""

from joinedfolk.chains import chain, groups_of, people
from joinedfolk.errors import BadName, BadRule
from joinedfolk.names import is_whole, is_word

LET = "let"
BAR = "bar"


def is_rule(thing):
    """Whether a thing is a rule: a tuple (word, whom, thing)."""
    if not isinstance(thing, tuple) or len(thing) != 3:
        return False
    word, whom, deed = thing
    return isinstance(word, str) and word in (LET, BAR) and is_whole(whom) and is_word(deed)


def check_rules(rules):
    """Refuse what is no list of rules."""
    if not isinstance(rules, list) or not all([is_rule(each) for each in rules]):
        raise BadRule("this is no list of rules")


def check_asked(roof, rules, who, thing):
    """Refuse what is no list of rules, no one that is there, or no word."""
    check_rules(rules)
    roof.check_one(who)
    if not is_word(thing):
        raise BadName("this is no word")


def places_about(roof, rules, who):
    """Each thing, with the places of the rules that are about one and the thing, rising."""
    # By numbers alone a rule whose whom is not there is about nobody.
    near = set([who] + groups_of(roof, who))
    places = {}
    for place, (word, whom, thing) in enumerate(rules):
        if whom in near:
            places.setdefault(thing, []).append(place)
    return places


def word_at(rules, places, at):
    """The word of the rule at one of some places; where there are no more of them, the answer is no."""
    return rules[places[at]][0] if at < len(places) else BAR


def may(roof, rules, who, thing):
    """Whether one may do a thing."""
    check_asked(roof, rules, who, thing)
    places = places_about(roof, rules, who).get(thing, [])
    return word_at(rules, places, 0) == LET


def reason(roof, rules, who, thing):
    """The place of the rule that tells whether one may do a thing, with a chain to its whom; None without one."""
    check_asked(roof, rules, who, thing)
    places = places_about(roof, rules, who).get(thing, [])
    if not places:
        return None
    whom = rules[places[0]][1]
    return (places[0], (who,) if whom == who else chain(roof, who, whom))


def needless(roof, rules):
    """The rising list of places of rules without which, each left out alone, all people may do the same."""
    check_rules(rules)
    needed = set()
    for who in people(roof):
        for places in places_about(roof, rules, who).values():
            # Without the first rule the second one tells; all others are silent either way.
            if word_at(rules, places, 0) != word_at(rules, places, 1):
                needed.add(places[0])
    return [place for place in range(len(rules)) if place not in needed]


def parted(roof, rules, other):
    """The least (who, thing) of which two lists of rules tell unlike; None, if they tell the same of all people."""
    check_rules(rules)
    check_rules(other)
    things = sorted({thing for word, whom, thing in rules + other})
    for who in people(roof):
        places = places_about(roof, rules, who)
        others = places_about(roof, other, who)
        for thing in things:
            if word_at(rules, places.get(thing, []), 0) != word_at(other, others.get(thing, []), 0):
                return (who, thing)
    return None
