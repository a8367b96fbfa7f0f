"""A Board kept by hand, and rows of calls for it."""

from hintring import errors
from hintring.families import is_family
from tests import oracles
from tests.makers import can_come, random_family, subsets

METHODS = ("put", "strike", "copy", "send", "lose", "wait", "come", "read")


class Hand:
    """What a Board is to be: each method as [26] says it, each stage copied whole."""

    def __init__(self, many, life):
        self.many, self.life = many, life
        self.deeds, self.parts, self.entries, self.now_tick = [], [], [], 0

    def book(self):
        return self.many, self.life, tuple(self.deeds)

    def world(self):
        return tuple((takers, tuple(sorted(late))) if takers is not None else tuple(sorted(late))
                     for takers, late in self.parts)

    def log(self):
        return tuple(self.entries)

    def cells(self):
        return oracles.play(self.book(), self.world())[0][-1]

    def letters(self):
        now = len(self.deeds)
        if any(moment == now for moment, _, _ in self.entries):
            return ()
        found = []
        for number, deed in enumerate(self.deeds):
            takers, late = self.parts[number]
            for place in oracles.targets(deed):
                token = (place, now) if takers is not None else now
                if can_come(self.book(), number, now) and token not in late:
                    found.append((number, place))
        return tuple(found)

    def refusal(self, word, args):
        """(class, number) of what this call raises, or None."""
        places = {"put": lambda: args[0] + args[1], "strike": lambda: args[0] + args[1], "copy": lambda: args,
                  "send": lambda: args, "lose": lambda: args, "wait": lambda: (), "come": lambda: args[1:],
                  "read": lambda: args[0]}[word]()
        for place in places:
            if not 0 <= place < self.many:
                return errors.NoPlace, place
        if word == "come":
            if not 0 <= args[0] < len(self.deeds):
                return errors.NoDeed, args[0]
            return None if args in self.letters() else (errors.CanNot, None)
        if len(self.entries) >= 5 if word == "read" else len(self.deeds) >= 24:
            return errors.TooMany, None
        if word in ("put", "strike"):
            takers, homes, family = args
            fine = is_family(family, self.many) and all(set(lot) <= set(homes) for lot in family)
            if not fine or not set(takers) <= set(homes) or not oracles.holds(family, takers):
                return errors.Unfit, None
        if word in ("copy", "send") and args[0] == args[1]:
            return errors.Unfit, None
        return None

    def do(self, word, args):
        """Does what the call asks for; returns what it returns."""
        if word in ("put", "strike"):
            version = max([deed[2] for deed in self.deeds if oracles.is_written(deed)] + [0]) + 1
            self.deeds.append((word, self.now_tick, version, args[1], args[2]))
            self.parts.append((args[0], set()))
            return version
        if word == "come":
            number, place = args
            takers, late = self.parts[number]
            self.parts[number] = takers, late | {(place, len(self.deeds)) if takers is not None else len(self.deeds)}
            return None
        if word == "read":
            told = oracles.read(self.cells(), args[0])
            self.entries.append((len(self.deeds), args[0], told))
            return told
        if word == "wait":
            self.now_tick += args[0]
            self.deeds.append(("wait", self.now_tick))
        else:
            self.deeds.append((word, self.now_tick) + args)
        self.parts.append((None, set()))
        return None

    def twin(self):
        other = Hand(self.many, self.life)
        other.deeds, other.parts, other.entries = list(self.deeds), list(self.parts), list(self.entries)
        other.now_tick = self.now_tick
        return other


def random_call(rng, hand, wild=0.2):
    """(word, args) of a step, mostly one that raises nothing."""
    word = rng.choice(METHODS + ("come", "come", "come"))
    many = hand.many
    place = lambda: rng.randrange(many) if rng.random() > wild else rng.choice((-1, many, many + 1, 0))
    if word in ("put", "strike"):
        homes = rng.choice(subsets(range(many))[1:])
        family = random_family(rng, homes)
        takers = tuple(sorted(set(rng.choice(family)) | {home for home in homes if rng.random() < 0.2}))
        if rng.random() < wild:
            homes, takers, family = rng.choice(((homes, takers, ()), (homes, (), family), (homes[1:], takers, family),
                                                (homes + (many,), takers, family), (homes, (-1,), family),
                                                (homes, takers, ((0,), (0, 1)))))
        return word, (takers, homes, family)
    if word in ("copy", "send"):
        one, other = place(), place()
        return word, (one, other if one != other or rng.random() < wild else (one + 1) % many)
    if word == "lose":
        return word, (place(),)
    if word == "wait":
        return word, (rng.choice((0, 0, 1, 2)),)
    if word == "come":
        if hand.letters() and rng.random() > wild:
            return word, rng.choice(hand.letters())
        return word, (rng.randrange(-1, len(hand.deeds) + 1), place())
    some = rng.choice(subsets(range(many)))
    return word, (some if rng.random() > wild else some + (many,),)


def call(board, word, args):
    return getattr(board, word)(*args)
