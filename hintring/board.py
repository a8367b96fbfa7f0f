"""A board: a BOOK as it goes, with its letters in hand and a LOG of what was read."""

from hintring.books import MOST_DEEDS, is_deed
from hintring.deeds import coming, is_write, refuse, sent_to
from hintring.errors import CanNot, NothingDone, TooMany, Unfit
from hintring.instead import told_by
from hintring.logs import next_answers
from hintring.misses import missed_versions
from hintring.plain import frozen
from hintring.plays import played
from hintring.strikes import grace_of
from hintring.worlds import is_part, told_of

MOST_ENTRIES = 5


class Board:
    """A BOOK, a WORLD of it, and a LOG that this WORLD keeps, step by step.

    stages has, at first and behind each step that is not taken back, a triple: the DEEDS, what
    the WORLD has for each of them, and the entries of the LOG; undone has those that were
    taken back, the next one to be made again last."""

    def __init__(self, many, life):
        self.many = many
        self.life = life
        self.stages = [((), (), ())]
        self.undone = []

    def put(self, takers, homes, family):
        """Writes a PUT that takers get at once; returns its VERSION."""
        return self._write("put", takers, homes, family)

    def strike(self, takers, homes, family):
        """Writes a STRIKE that takers get at once; returns its VERSION."""
        return self._write("strike", takers, homes, family)

    def _write(self, kind, takers, homes, family):
        """Writes one later VERSION, of this kind; returns it."""
        takers, homes, family = frozen(takers), frozen(homes), frozen(family)
        ours = [deed[2] for deed in self.stages[-1][0] if is_write(deed)]
        version = max(ours, default=0) + 1
        self._do((kind, self.tick(), version, homes, family), (takers, ()), takers + homes)
        return version

    def copy(self, one, other):
        """What one holds is handed on to other."""
        self._do(("copy", self.tick(), one, other), (), (one, other))

    def send(self, one, other):
        """A letter with what one holds sets out for other."""
        self._do(("send", self.tick(), one, other), (), (one, other))

    def lose(self, place):
        """What place holds is lost."""
        self._do(("lose", self.tick(), place), (), (place,))

    def wait(self, ticks):
        """So many ticks go by."""
        self._do(("wait", self.tick() + ticks), (), ())

    def _do(self, deed, part, places):
        """One DEED more, of these PLACES, for which the WORLD has this part."""
        refuse(self.book(), places=places)
        deeds, parts, entries = self.stages[-1]
        if len(deeds) >= MOST_DEEDS:
            raise TooMany()
        grown = deeds + (deed,)
        if not is_deed(self.many, deed) or not is_part((self.many, self.life, grown), len(deeds), part):
            raise Unfit()
        self._step((grown, parts + (part,), entries))

    def _step(self, stage):
        """Goes on to this stage; what was taken back can be made again no more."""
        self.stages.append(stage)
        self.undone = []

    def come(self, number, place):
        """The letter of this DEED to place comes now."""
        refuse(self.book(), places=(place,), numbers=(number,))
        if (number, place) not in self.letters():
            raise CanNot()
        deeds, parts, entries = self.stages[-1]
        now, part = len(deeds), parts[number]
        if is_write(deeds[number]):
            part = part[0], tuple(sorted(part[1] + ((place, now),)))
        else:
            part = part + (now,)
        self._step((deeds, parts[:number] + (part,) + parts[number + 1:], entries))

    def read(self, some):
        """What a read of some tells now; the LOG keeps it."""
        some = frozen(some)
        refuse(self.book(), places=some)
        deeds, parts, entries = self.stages[-1]
        if len(entries) >= MOST_ENTRIES:
            raise TooMany()
        told = told_of(self.cells(), some)
        self._step((deeds, parts, entries + ((len(deeds), some, told),)))
        return told

    def undo(self):
        """Takes back the last step that is not taken back."""
        if len(self.stages) == 1:
            raise NothingDone()
        self.undone.append(self.stages.pop())

    def redo(self):
        """Makes the step again that was taken back last."""
        if len(self.undone) == 0:
            raise NothingDone()
        self.stages.append(self.undone.pop())

    def book(self):
        """The BOOK."""
        return self.many, self.life, self.stages[-1][0]

    def world(self):
        """The WORLD."""
        return self.stages[-1][1]

    def log(self):
        """The LOG."""
        return self.stages[-1][2]

    def cells(self):
        """What each PLACE holds now."""
        return played(self.book(), self.world())[0][-1]

    def tick(self):
        """The tick that it is now."""
        deeds = self.stages[-1][0]
        # Each DEED stands at the tick that it was then, and only waits let it grow.
        return deeds[-1][1] if len(deeds) > 0 else 0

    def letters(self):
        """The set of the pairs (number, place) of the letters that can come now and do not yet."""
        deeds, parts, entries = self.stages[-1]
        now = len(deeds)
        if len(entries) > 0 and entries[-1][0] == now:
            return ()
        book = self.book()
        return tuple([(number, place) for number, deed in enumerate(deeds) if now in coming(book, number)
                      for place in sent_to(deed) if not does_come(deed, parts[number], place, now)])

    def may_miss(self, some):
        """The set of the VERSIONS of the BOOK that a read of some can miss."""
        return missed_versions(self.book(), some, len(some))

    def may_tell(self, some):
        """The set of all that a read of some can tell."""
        return told_by(self.book(), some)

    def answers(self, some):
        """The set of what a read of some can tell now, for whoever knows the BOOK and the LOG."""
        return next_answers(self.book(), self.log(), len(self.stages[-1][0]), some)

    def least_grace(self, some):
        """The least grace with which some bring nothing back; None if they do with each one."""
        return grace_of(self.book(), frozen(some))

    def twin(self):
        """A Board equal to this one, with the same steps, that goes on by itself."""
        other = Board(self.many, self.life)
        other.stages = list(self.stages)
        other.undone = list(self.undone)
        return other

    def __eq__(self, other):
        if not isinstance(other, Board):
            return False
        return self.book() == other.book() and self.world() == other.world() and self.log() == other.log()


def does_come(deed, part, place, moment):
    """Whether the letter of this DEED to place comes at this MOMENT, by its part of a WORLD."""
    if is_write(deed):
        return (place, moment) in part[1]
    return moment in part
