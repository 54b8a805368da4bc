"""What tests ask of a roof time and again."""

from joinedfolk.errors import RoofError
from joinedfolk.roofs import Roof

# Things that are no word, no name, no number and no house.
STRANGE = (True, False, None, 0, 7, -1, 100.0, "", "Ann", "a b", b"ann", (), (100,), ("ann",), [], [100], ["ann"], {})

# Things that are no row of a journal by their form.
NO_ROWS = (
    None, True, 5, "found oak", [], ["found", "oak"], (), ("found",), ("found", "oak", "elm"), ("take_back",), ("time",),
    ("",), ("Found", "oak"), ("found ", "oak"), (None, "oak"), (True,), (5, 100), (["found"], "oak"), (("found", "oak"),),
    ("found", "Oak"), ("found", ""), ("found", 100), ("found", None), ("found", "-"), ("found", True), ("found", ["oak"]),
    ("found", ("oak",)), ("found", "ninesigns"), ("come", "two", "ann", "oak"), ("come", "one", "ann"),
    ("come", "one", "ann", "oak", None), ("come", None, "ann", "oak"), ("come", ["one"], "ann", "oak"),
    ("come", "one", None, "oak"), ("come", "one", "ann", None), ("come", "ann", "one", "oak"), ("go",), ("go", -1),
    ("go", True), ("go", False), ("go", None), ("go", "100"), ("go", 100.0), ("go", [100]), ("go", (100,)),
    ("go", 100, 101), ("put_in", 100), ("put_in", 100, "crew"), ("put_in", True, 100), ("put_in", 100, True),
    ("put_in", 100, 101, 102), ("take_out", -1, 100), ("take_out", 100, -1), ("take_out", 100, None),
    ("call", 100), ("call", "ann", 100), ("call", 100, None), ("call", 100, "BEA"), ("call", 100, 5),
    ("move", 100, "elm"), ("move", 100, "elm", None, None), ("move", 100, None, None), ("move", 100, "elm", "-"),
    ("move", 100, "elm", ""), ("move", 100, "elm", False), ("move", 100, "elm", 5), ("move", None, "elm", None),
    ("move", 100, "elm", ["a"]), ("merge", "oak"), ("merge", "oak", None), ("merge", "oak", 5),
    ("merge", "oak", "elm", "ash"), ("trust", "oak", "ELM"), ("trust", "oak"), ("mistrust", True, "oak"),
    ("mistrust", "oak", "elm", None),
)

HOUSES = ("a", "b", "c", "d")
WORDS = ("ann", "ann2", "bob", "abcdefgh", "abcdefg2")


def told(roof):
    """All that a roof tells, so that two times can be compared."""
    houses = roof.houses()
    numbers = [who for house in houses for who in roof.everyone(house)]
    names = [(who, roof.name(who)) for who in numbers]
    return {
        "time": roof.time(),
        "houses": houses,
        "ranges": [(house, roof.ranges(house)) for house in houses],
        "everyone": [(house, roof.everyone(house)) for house in houses],
        "names": names,
        "numbers": [(name, roof.number(name)) for _, name in names],
        "members": [(who, roof.members(who)) for who, name in names if name[0] == "group"],
        "trusted": [(house, roof.trusted(house)) for house in houses],
    }


def two_houses():
    """Houses oak and elm; ann 100, bob 101, crew 102 in oak; ann 200, kin 201 in elm."""
    roof = Roof()
    roof.found("oak")
    roof.found("elm")
    roof.come("one", "ann", "oak")
    roof.come("one", "bob", "oak")
    roof.come("group", "crew", "oak")
    roof.come("one", "ann", "elm")
    roof.come("group", "kin", "elm")
    roof.put_in(100, 102)
    roof.put_in(200, 102)
    roof.put_in(102, 201)
    roof.trust("oak", "elm")
    return roof


def refused(test, kind, deed, *things, field=None, **named):
    """Test that a deed is refused by just this class, and tell the refusal's field."""
    try:
        deed(*things, **named)
    except RoofError as e:
        test.assertIs(type(e), kind, (things, named))
        return None if field is None else getattr(e, field)
    test.fail(f"{things} {named} were not refused")


def a_deed(chance, roof):
    """A deed with arguments that often are refused: (name, arguments)."""
    there = [who for house in roof.houses() for who in roof.everyone(house)]
    one = lambda: chance.choice(there + [99])
    house = lambda: chance.choice(HOUSES)
    word = lambda: chance.choice(WORDS)
    kind = lambda: chance.choice(("one", "group"))
    deeds = {
        "found": lambda: (house(),), "come": lambda: (kind(), word(), house()), "go": lambda: (one(),),
        "put_in": lambda: (one(), one()), "take_out": lambda: (one(), one()), "call": lambda: (one(), word()),
        "move": lambda: (one(), house(), chance.choice((None, word()))), "merge": lambda: (house(), house()),
        "trust": lambda: (house(), house()), "mistrust": lambda: (house(), house()),
    }
    often = ("come", "put_in", "put_in", "trust", "found")
    name = chance.choice(tuple(deeds) + often)
    return name, deeds[name]()


def do(roof, name, things):
    """Do a deed by its name, with the arguments of its row."""
    if name == "move":
        return roof.move(things[0], things[1], word=things[2])
    return getattr(roof, name)(*things)


def chance_roof(chance, many, roof=None):
    """A new roof, or the one handed in, on which deeds by chance were done till its time is many."""
    roof = Roof() if roof is None else roof
    while roof.time() < many:
        name, things = a_deed(chance, roof)
        try:
            do(roof, name, things)
        except RoofError:
            continue
    return roof


def crowd(chance, trusting=False):
    """A roof of three houses with 4 people and 6 groups by chance, rings and groups in themselves among them."""
    roof = Roof()
    for house in ("a", "b", "c"):
        roof.found(house)
    pairs = [(house, other) for house in "abc" for other in "abc" if house != other]
    for house, other in pairs:
        if trusting or chance.random() < 0.4:
            roof.trust(house, other)
    ones = [roof.come("one", f"p{place}", chance.choice("abc")) for place in range(4)]
    groups = [roof.come("group", f"g{place}", chance.choice("abc")) for place in range(6)]
    for place in range(chance.randrange(4, 20)):
        roof.put_in(chance.choice(ones + groups + groups), chance.choice(groups))
    return roof


def there(roof, kind=None):
    """The rising list of all that are there, or of those of a kind."""
    numbers = [who for house in roof.houses() for who in roof.everyone(house)]
    return sorted([who for who in numbers if kind in (None, roof.name(who)[0])])


def counted(roof):
    """All memberships (who, group) that count, by what the roof tells."""
    pairs = [(who, group) for group in there(roof, "group") for who in roof.members(group)]
    house = {who: roof.name(who)[2] for who in there(roof)}
    return {
        (who, group) for who, group in pairs
        if house[who] == house[group] or house[who] in roof.trusted(house[group])
    }


def chains_by_hand(roof, who, group):
    """All chains from one to a group, found by trying all ways."""
    pairs = sorted(counted(roof))
    ways, found = [(who,)], []
    while ways:
        way = ways.pop()
        for member, above in pairs:
            if member == way[-1] and above not in way:
                ways.append(way + (above,))
                if above == group:
                    found.append(way + (above,))
    return found


def pairs_by_hand(roof, kind=None):
    """All (who, group), of a kind of who or of both, of which who is in the group."""
    pairs = counted(roof)
    before = None
    while pairs != before:
        before = pairs
        pairs = before | {(who, above) for who, group in before for below, above in counted(roof) if below == group}
    return sorted([(who, group) for who, group in pairs if who != group and who in there(roof, kind)])
