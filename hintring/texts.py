"""Texts of BOOKS, WORLDS, LOGS and RINGS, a line for each part."""

from hintring.books import is_deed
from hintring.deeds import is_write
from hintring.errors import BadLine
from hintring.plain import frozen, is_number
from hintring.words import family_in, family_word, number_in, numbers_in, pairs_in, pairs_word, set_in, set_word


def text_of(rows):
    """The text with a line for each of these rows of words."""
    return "".join([" ".join(row) + "\n" for row in rows])


def number_words(numbers):
    """The list of the words of these numbers."""
    return [str(number) for number in numbers]


def book_text(book):
    """The text of a BOOK."""
    many, life, deeds = frozen(book)
    return text_of([["book"] + number_words((many, life))] + [deed_words(deed) for deed in deeds])


def deed_words(deed):
    """The list of the words of a DEED."""
    if is_write(deed):
        kind, tick, version, homes, family = deed
        return [kind] + number_words((tick, version)) + [set_word(homes), family_word(family)]
    return [deed[0]] + number_words(deed[1:])


def world_text(world):
    """The text of a WORLD."""
    return text_of([part_words(part) for part in frozen(world)])


def part_words(part):
    """The list of the words of what a WORLD has for a DEED."""
    if part == ():
        return ["none"]
    if is_number(part[0]):
        return ["came", set_word(part)]
    takers, late = part
    return ["took", set_word(takers), pairs_word(late)]


def log_text(log):
    """The text of a LOG."""
    return text_of([["read", str(moment), set_word(some), str(version)] for moment, some, version in frozen(log)])


def ring_text(ring):
    """The text of a RING."""
    points, spots = frozen(ring)
    return text_of([["ring", str(points)]] + [["spot"] + number_words(spot) for spot in spots])


def lines_of(text):
    """The list of the lines of a text, each as the list of its words."""
    lines = text.split("\n")
    if lines[-1] == "":
        lines.pop()
    return [line.split(" ") for line in lines]


def heading(lines, word, count):
    """The numbers of a first line of this word and so many numbers, the first of them no 0."""
    numbers = numbers_behind(word, count, lines[0]) if len(lines) > 0 else None
    if numbers is None or numbers[0] == 0:
        raise BadLine(0)
    return numbers


def numbers_behind(word, count, words):
    """The numbers of a line of this word and so many numbers; None if it is no such line."""
    if words[0] != word or len(words) != count + 1:
        return None
    return numbers_in(words[1:])


def read_book(text):
    """The BOOK with this text."""
    lines = lines_of(text)
    many, life = heading(lines, "book", 2)
    deeds, tick, version = [], 0, 0
    for number in range(1, len(lines)):
        deed = deed_in(lines[number])
        if not is_deed(many, deed) or deed[1] < tick:
            raise BadLine(number)
        tick = deed[1]
        if is_write(deed):
            if deed[2] <= version:
                raise BadLine(number)
            version = deed[2]
        deeds.append(deed)
    return many, life, tuple(deeds)


def deed_in(words):
    """What would be the DEED with these words, with None in the place of each that is unfit."""
    if is_write(words) and len(words) == 5:
        return words[0], number_in(words[1]), number_in(words[2]), set_in(words[3]), family_in(words[4])
    return (words[0],) + tuple([number_in(word) for word in words[1:]])


def read_world(text):
    """What is shaped like a WORLD with this text."""
    parts = []
    for number, words in enumerate(lines_of(text)):
        part = part_in(words)
        if part is None:
            raise BadLine(number)
        parts.append(part)
    return tuple(parts)


def part_in(words):
    """What a WORLD may have for a DEED with these words; None if there is none."""
    if words == ["none"]:
        return ()
    if words[0] == "took" and len(words) == 3:
        takers, late = set_in(words[1]), pairs_in(words[2])
        if takers is not None and late is not None:
            return takers, late
    if words[0] == "came" and len(words) == 2 and words[1] != "-":
        return set_in(words[1])
    return None


def read_log(text):
    """What is shaped like a LOG with this text."""
    entries, latest = [], 0
    for number, words in enumerate(lines_of(text)):
        entry = entry_in(words)
        if entry is None or entry[0] < latest:
            raise BadLine(number)
        latest = entry[0]
        entries.append(entry)
    return tuple(entries)


def entry_in(words):
    """What is shaped like an entry of a LOG with these words; None if nothing is."""
    if words[0] != "read" or len(words) != 4:
        return None
    entry = number_in(words[1]), set_in(words[2]), number_in(words[3])
    if None in entry:
        return None
    return entry


def read_ring(text):
    """The RING with this text."""
    lines = lines_of(text)
    points = heading(lines, "ring", 1)[0]
    spots, latest = [], -1
    for number in range(1, len(lines)):
        spot = numbers_behind("spot", 2, lines[number])
        if spot is None or not latest < spot[0] < points:
            raise BadLine(number)
        latest = spot[0]
        spots.append(spot)
    return points, tuple(spots)
