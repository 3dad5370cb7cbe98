"""Tables, fillings and things of any kind that several tests use."""

FOLK = ("folk", (("name", ("cid", "ann", "bob")), ("town", ("york", "bath")), ("job", ("none", "cook"))), 1)
TOWNS = ("towns", (("town", ("york", "bath")), ("land", ("west", "east"))), 2)
SCHEMA = (FOLK, TOWNS)
FILLING = (
    (("ann", "bath", "cook"), ("bob", "york", "none"), ("cid", "york", "cook")),
    (("bath", "west"), ("york", "east"), ("york", "west")),
)
EMPTY = ((), ())

NO_WORDS = ("", "ninesigns", "Ann", "a b", " ", "a_b", "a-b", "a.b", "a\n", "\n", "A")


def nested(depth, wrap):
    thing = "a"
    for step in range(depth):
        thing = wrap(thing)
    return thing


def shown(thing, most=200):
    """The beginning of its text; repr would never end of things that hold themselves shared many deep."""
    if isinstance(thing, (tuple, list)):
        text = ""
        for part in thing:
            text += shown(part, most - len(text)) + ", "
            if len(text) >= most:
                break
        return ("(" if isinstance(thing, tuple) else "[") + text
    return "{.." if isinstance(thing, dict) else repr(thing)


class Odd:
    """A thing that can't be compared, hashed, walked or asked for its truth."""

    __hash__ = None

    def refuse(self, *things):
        raise AssertionError("asked what may not be asked of anything")

    __eq__ = __ne__ = __lt__ = __gt__ = __le__ = __ge__ = __bool__ = __len__ = __iter__ = refuse


JUNK = (
    None, True, False, 0, 1, -1, 10 ** 30, b"", b"a", b"ann", [], ["a"], [1, [2]], (), ((),), ("a", "a"), (None,),
    {}, {"a": 1}, {"a"}, frozenset(("a",)), range(3), len, object(), Odd(), (Odd(), Odd(), Odd()), ("of", Odd()),
    "of folk", "folk, towns",
    nested(60, lambda thing: [thing]), nested(60, lambda thing: (thing,)), nested(60, lambda thing: {"a": thing}),
    nested(60, lambda thing: ("join", thing, thing)), nested(60, lambda thing: (thing, thing, 1)),
    nested(60, lambda thing: ("rows", thing, ())),
) + NO_WORDS


def replaced(thing, change):
    """All things made of this one by putting each of change(part) in the place of one part, or of it whole."""
    yield from change(thing)
    if isinstance(thing, tuple):
        for at, part in enumerate(thing):
            for other in replaced(part, change):
                yield thing[:at] + (other,) + thing[at + 1:]


def as_lists(thing):
    """This one with one tuple as a list, at each place."""
    return replaced(thing, lambda part: [list(part)] if isinstance(part, tuple) else [])


def with_junk(thing, right=lambda part, junk: False):
    """This one with a thing of another kind at each place, but for such as are right there."""
    return replaced(thing, lambda part: [junk for junk in JUNK if not right(part, junk)])
