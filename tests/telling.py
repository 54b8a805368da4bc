"""What tests ask of a roof time and again."""

from joinedfolk.errors import RoofError
from joinedfolk.roofs import Roof

# Things that are no word, no name, no number and no house.
STRANGE = (True, False, None, 0, 7, -1, 100.0, "", "Ann", "a b", b"ann", (), (100,), ("ann",), [], [100], ["ann"], {})


def told(roof):
    """All that a roof tells, so that two times can be compared."""
    houses = roof.houses()
    numbers = [who for house in houses for who in roof.everyone(house)]
    names = [(who, roof.name(who)) for who in numbers]
    return {
        "time": roof.time(),
        "houses": houses,
        "ranges": [(house, roof.ranges(house)) for house in houses],
        "everyone": [(house, roof.everyone(house)) for house in houses],
        "names": names,
        "numbers": [(name, roof.number(name)) for _, name in names],
        "members": [(who, roof.members(who)) for who, name in names if name[0] == "group"],
        "trusted": [(house, roof.trusted(house)) for house in houses],
    }


def two_houses():
    """Houses oak and elm; ann 100, bob 101, crew 102 in oak; ann 200, kin 201 in elm."""
    roof = Roof()
    roof.found("oak")
    roof.found("elm")
    roof.come("one", "ann", "oak")
    roof.come("one", "bob", "oak")
    roof.come("group", "crew", "oak")
    roof.come("one", "ann", "elm")
    roof.come("group", "kin", "elm")
    roof.put_in(100, 102)
    roof.put_in(200, 102)
    roof.put_in(102, 201)
    roof.trust("oak", "elm")
    return roof


def refused(test, kind, deed, *things, field=None, **named):
    """Test that a deed is refused by just this class, and tell the refusal's field."""
    try:
        deed(*things, **named)
    except RoofError as e:
        test.assertIs(type(e), kind, (things, named))
        return None if field is None else getattr(e, field)
    test.fail(f"{things} {named} were not refused")
