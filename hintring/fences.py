"""FENCES of MARKINGS: who must hold at most so much, and which MARKINGS do for a LOG.

masks stands for the FENCES at one MOMENT: one LOT as a mask for each level of the Quest;
rows for those of all MOMENTS."""

from hintring.deeds import coming, is_write, write_numbers, write_with
from hintring.masks import has_place, mask_of, masks_of
from hintring.misses import first_free
from hintring.pasts import mask_ahead, mask_behind


class Quest:
    """What a LOG of a BOOK asks for, worked out once for all its MARKINGS.

    entries are triples (moment, some, version); caps are such triples, too: there some must
    hold at most version, and nobody need hold it."""

    def __init__(self, book, entries, caps):
        self.deeds = book[2]
        self.marks = marks_of(entries)
        self.levels = sorted(set(list(self.marks) + [version for _, _, version in caps]))
        self.asked = [(moment, mask_of(some), version) for moment, some, version in entries]
        self.pins = [[] for _ in range(len(book[2]) + 1)]
        for moment, some, version in entries + caps:
            self.pins[moment].append((level_of(self.levels, version), mask_of(some)))
        self.comes = [coming(book, number) for number in range(len(book[2]))]
        self.lots = {number: masks_of(book[2][number][4]) for number in write_numbers(book[2])}
        self.rooms = {}
        # A letter sent behind the last entry is told by none, so it need not be marked.
        self.latest = max([moment for moment, _, _ in entries], default=0)


def marks_of(entries):
    """0 and the VERSIONS of these entries, ascending."""
    return tuple(sorted(set([0] + [version for _, _, version in entries])))


def level_of(levels, number):
    """The position of the greatest level up to this number."""
    return len([level for level in levels if level <= number]) - 1


def below(quest, number):
    """The level of the FENCE outside of which a whole lot must take this write."""
    return level_of(quest.levels, quest.deeds[number][2] - 1)


def has_room_beside(quest, number, mask):
    """Whether some LOT of the family of this write shares no PLACE with this one."""
    if (number, mask) not in quest.rooms:
        quest.rooms[(number, mask)] = first_free(quest.lots[number], mask) is not None
    return quest.rooms[(number, mask)]


def raised(masks, level, mask):
    """The FENCES at a MOMENT with this LOT in those from this level on."""
    return masks[:level] + tuple([one | mask for one in masks[level:]])


def pinned(quest, moment, masks):
    """The FENCES at this MOMENT with the LOTS that are asked at it."""
    for level, mask in quest.pins[moment]:
        masks = raised(masks, level, mask)
    return masks


def fences_ahead(quest, number, mark, masks):
    """The FENCES ahead of this DEED, of those behind it; mark is that of its letter, or 0."""
    deed = quest.deeds[number]
    if deed[0] in ("copy", "lose"):
        masks = tuple([mask_ahead(deed, mask) for mask in masks])
    elif mark > 0:
        masks = raised(masks, level_of(quest.levels, mark), 1 << deed[2])
    return pinned(quest, number, masks)


def last_fences(quest):
    """The FENCES behind all."""
    return pinned(quest, len(quest.deeds), (0,) * len(quest.levels))


def marked_sends(quest, marking):
    """For each send its number and what it is marked with."""
    sends = [number for number, deed in enumerate(quest.deeds) if deed[0] == "send"]
    return {number: mark for number, mark in zip(sends, marking)}


def rows_of(quest, marking):
    """The FENCES of this MARKING at all MOMENTS."""
    marks = marked_sends(quest, marking)
    rows = [last_fences(quest)]
    for number in reversed(range(len(quest.deeds))):
        rows.append(fences_ahead(quest, number, marks.get(number, 0), rows[-1]))
    return rows[::-1]


def doing(quest, most):
    """The list of the first MARKINGS that do, at most so many: pairs (marking, rows)."""
    found = []
    waiting = [(len(quest.deeds), (), (last_fences(quest),))]
    while len(waiting) > 0 and len(found) < most:
        number, marking, rows = waiting.pop()
        if number == 0:
            if first_unreached(quest, marking, rows) is None:
                found.append((marking, rows))
        else:
            for step in steps_back(quest, number - 1, marking, rows):
                waiting.append(step)
    return found


def steps_back(quest, number, marking, rows):
    """What comes ahead of this DEED of a MARKING of the sends behind it: the same for each
    mark, where it is a send; nothing, if it is a write that has no room."""
    deed = quest.deeds[number]
    if is_write(deed) and not has_room_beside(quest, number, rows[0][below(quest, number)]):
        return []
    if deed[0] != "send":
        return [(number, marking, (fences_ahead(quest, number, 0, rows[0]),) + rows)]
    return [(number, (mark,) + marking, (fences_ahead(quest, number, mark, rows[0]),) + rows)
            for mark in reversed(quest.marks if number < quest.latest else (0,))]


def can_do(quest):
    """Whether some MARKING does."""
    return len(doing(quest, 1)) > 0


def first_unreached(quest, marking, rows):
    """The first entry with a VERSION of which none is in REACH of it; None if there is none."""
    reached = {}
    for at, (moment, mask, version) in enumerate(quest.asked):
        if version > 0:
            if version not in reached:
                reached[version] = reach_masks(quest, marking, rows, version)
            if reached[version][moment] & mask == 0:
                return at
    return None


def reach_masks(quest, marking, rows, version):
    """REACH of this VERSION of the LOG: a LOT as a mask for each MOMENT."""
    last = len(quest.deeds)
    reach = [0] * (last + 1)
    number = write_with(quest.deeds, version)
    if number is None:
        return reach
    level = level_of(quest.levels, version)
    marks = marked_sends(quest, marking)
    arrived = [0] * (last + 1)
    for moment in quest.comes[number]:
        arrived[moment] = mask_of(quest.deeds[number][3])
    for moment in range(number + 1, last + 1):
        here = arrived[moment] | mask_behind(quest.deeds[moment - 1], reach[moment - 1])
        reach[moment] = here & rows[moment][level] & ~rows[moment][level - 1]
        if marks.get(moment, 0) == version and has_place(reach[moment], quest.deeds[moment][2]):
            for coming_at in quest.comes[moment]:
                arrived[coming_at] = arrived[coming_at] | (1 << quest.deeds[moment][3])
    return reach
