"""What the tests of houses have in common."""

import unittest

from movedrows.errors import CannotStep, UnknownName
from movedrows.house import House
from plain import WISHES, first_of, plain_broken, plain_remembered
from plain_house import PlainHouse

NAMES = ("ann", "bob", "cy", "dee", "ed", "fay")


def done(house, deed):
    """Do a deed by its method; return None, or the name of the error that refuses it."""
    method = getattr(house, deed[0])
    try:
        answer = method(*deed[1:])
    except (CannotStep, UnknownName) as error:
        return type(error).__name__
    assert answer is None
    return None


def drawn_deed(made, names, most=6):
    """Return a deed of any kind, whether it can be done or not."""
    word = made.choice(("change",) * 4 + ("take",) * 6 + ("slip", "mark", "fall", "press", "wipe", "picture", "end", "peek")
                       + ("look",) * 5)
    if word in ("change", "look", "peek"):
        return (word, made.choice(names), made.choice((0, 1, 1, 2, 2, 3)))
    if word in ("picture", "end"):
        return (word,)
    if word in ("press", "wipe"):
        return (word, made.choice((0, 0, 1)), made.randrange(most))
    return (word, made.choice((0, 0, 1)))


def deeds_of(way, rules, names, made, many):
    """Return a tuple of deeds that can be done one after another; about so many are drawn."""
    house, deeds = PlainHouse(way, rules, names), []
    for _ in range(many):
        deed = drawn_deed(made, names)
        if house.can(deed):
            house.do(deed)
            deeds.append(deed)
    return tuple(deeds)


def house_with(way, rules, names, deeds):
    """Return a house in which the deeds are done."""
    house = House(way, rules, names)
    for deed in deeds:
        assert done(house, deed) is None, deed
    return house


def deeds_for(name, weaving):
    """Return the deeds that do the steps of a weaving to the only row of a house."""
    return tuple((step[0], name) + step[1:] if step[0] in ("change", "look", "peek") else step for step in weaving)


def plain_steps_to_break(way, rules, word, weaving):
    """Return the number of steps after which a weaving breaks the wish first, or None."""
    standing = first_of(way)
    for many, step in enumerate(weaving, start=1):
        standing = plain_remembered(way, rules, word, standing, step)
        if plain_broken(way, word, standing):
            return many
    return None


class HouseCase(unittest.TestCase):
    def told(self, house, names):
        """Return all that a house tells."""
        lanes = range(house_lanes(house))
        return (
            len(house), house.deeds(), house.table(), house.truth(), house.asked(), [house.lane(lane) for lane in lanes],
            [(house.shows(name), house.place_of(name), house.weaving_of(name), house.standing_of(name)) for name in names],
            [house.broken(word) for word in WISHES],
            [house.paper_of(name, word) for name in names for word in WISHES])

    def assert_plain(self, house, plain):
        """Check all that a house tells by the plain telling."""
        self.assertEqual(len(house), len(plain.done))
        self.assertEqual(house.deeds(), tuple(plain.done))
        self.assertEqual(house.table(), plain.table())
        self.assertEqual(house.truth(), plain.truth())
        self.assertEqual(house.asked(), tuple(sorted(plain.asked)))
        for lane in range(plain.many):
            self.assertEqual(house.lane(lane), (tuple(plain.again[lane]), tuple(plain.untaken[lane])))
        for name in plain.names:
            self.assertEqual(house.shows(name), plain.shows(name))
            self.assertEqual(house.place_of(name), plain.place[name])
            self.assertEqual(house.weaving_of(name), tuple(plain.weavings[name]))
            self.assertEqual(house.standing_of(name), plain.standing_of(name))

    def assert_broken(self, house, plain):
        """Check which rows break which wishes by the plain telling."""
        for word in WISHES:
            found = []
            for name in plain.names:
                weaving = tuple(plain.weavings[name])
                steps = plain_steps_to_break(plain.way, plain.rules, word, weaving)
                claim = ("keeps", plain.way, plain.rules, word)
                paper = None if steps is None else ("broken", claim, weaving[:steps])
                self.assertEqual(house.paper_of(name, word), paper)
                found += [(name, steps)] if steps is not None else []
            self.assertEqual(house.broken(word), tuple(sorted(found)))


def house_lanes(house):
    """Return the number of lanes of a house."""
    try:
        house.lane(1)
    except CannotStep:
        return 1
    return 2
