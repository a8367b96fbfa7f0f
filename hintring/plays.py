"""How WORLDS are played, DEED by DEED, and what CELLS can come of all of them."""

from hintring.deeds import coming, is_write, sent_to, touched


def letters_by_moments(book, world):
    """For each MOMENT at which letters come, the pairs (place, number of the DEED)."""
    found = {}
    for number, deed in enumerate(book[2]):
        part = world[number]
        if is_write(deed):
            for place, moment in part[1]:
                found.setdefault(moment, []).append((place, number))
        elif deed[0] == "send":
            for moment in part:
                found.setdefault(moment, []).append((deed[3], number))
    return found


def played(book, world):
    """The list of the CELLS of all MOMENTS, and the list of what each letter carries."""
    return played_with_ends(book, world, {})


def played_with_ends(book, world, ends):
    """The same; ends has for the numbers of some DEEDS the VERSIONS that end ahead of them."""
    letters = letters_by_moments(book, world)
    cells, gone = [0] * book[0], [0]
    rows, burdens = [tuple(cells)], []
    for number, deed in enumerate(book[2]):
        if number in ends:
            gone = gone + ends[number]
            cells = [0 if version in gone else version for version in cells]
        burdens.append(burden(deed, cells))
        if is_write(deed):
            cells = cells_with(cells, world[number][0], deed[2])
        else:
            cells = cells_behind(deed, cells)
        for place, source in letters.get(number + 1, []):
            if burdens[source] not in gone:
                cells[place] = max(cells[place], burdens[source])
        rows.append(tuple(cells))
    return rows, burdens


def burden(deed, cells):
    """What the letter of this DEED carries, with these CELLS ahead of it."""
    if is_write(deed):
        return deed[2]
    if deed[0] == "send":
        return cells[deed[2]]
    return 0


def cells_with(cells, lot, version):
    """The list of the CELLS behind a write of this VERSION that this LOT takes."""
    fresh = list(cells)
    for place in lot:
        fresh[place] = max(fresh[place], version)
    return fresh


def cells_behind(deed, cells):
    """The list of the CELLS behind a DEED that is no write, ahead of its MOMENT's letters."""
    fresh = list(cells)
    if deed[0] == "copy":
        fresh[deed[3]] = max(fresh[deed[3]], fresh[deed[2]])
    elif deed[0] == "lose":
        fresh[deed[2]] = 0
    return fresh


def send_slots(book, moment):
    """For the number of each send ahead of this MOMENT, where a STATE has what it carries."""
    sends = [number for number in range(moment) if book[2][number][0] == "send"]
    return {number: book[0] + at for at, number in enumerate(sends)}


def layers_to(book, moment):
    """For each MOMENT up to this one the STATES that can be, each with one ahead of it.

    A STATE is a tuple of the CELLS and of what the letter of each send carries, 0 for
    those that can come no more."""
    slots = send_slots(book, moment)
    layers = [{(0,) * (book[0] + len(slots)): None}]
    for number in range(moment):
        layer = behind_deed(book, slots, number, layers[number])
        # To all other PLACES nothing can come that could not come a MOMENT ago.
        for place in touched(book[2][number]):
            layer = with_letters(book, slots, number + 1, layer, place)
        layers.append(without_late(book, slots, number + 1, layer))
    return layers


def put_at(state, at, version):
    """The STATE with this VERSION there."""
    return state[:at] + (version,) + state[at + 1:]


def behind_deed(book, slots, number, layer):
    """The STATES that this DEED makes of those of a layer, each with the one ahead of it."""
    deed = book[2][number]
    found = {}
    for state in layer:
        if is_write(deed):
            for lot in deed[4]:
                found.setdefault(tuple(cells_with(state, lot, deed[2])), state)
        elif deed[0] == "send":
            found.setdefault(put_at(state, slots[number], state[deed[2]]), state)
        else:
            found.setdefault(tuple(cells_behind(deed, state)), state)
    return found


def with_letters(book, slots, moment, layer, place):
    """The STATES of a layer and those that letters to this PLACE make of them at this MOMENT."""
    alive = [number for number in range(moment)
             if place in sent_to(book[2][number]) and moment in coming(book, number)]
    told = [book[2][number][2] for number in alive if number not in slots]
    carried = [slots[number] for number in alive if number in slots]
    found = {}
    for state, back in layer.items():
        found.setdefault(state, back)
        for version in told + [state[slot] for slot in carried]:
            if version > state[place]:
                found.setdefault(put_at(state, place, version), back)
    return found


def without_late(book, slots, moment, layer):
    """The STATES of a layer with 0 for each letter that can come no more."""
    late = [slots[number] for number in slots if moment + 1 not in coming(book, number)]
    found = {}
    for state, back in layer.items():
        for slot in late:
            state = put_at(state, slot, 0)
        found.setdefault(state, back)
    return found


def cells_to(book, moment, cells):
    """The list of the CELLS, from MOMENT 0, of one way to these; None if there is none."""
    layers = layers_to(book, moment)
    state = None
    for one in layers[moment]:
        if one[:book[0]] == cells:
            state = one
            break
    if state is None:
        return None
    rows = [state]
    for at in reversed(range(moment)):
        rows.append(layers[at + 1][rows[-1]])
    return [row[:book[0]] for row in reversed(rows)]


def world_along(book, rows):
    """A WORLD that has these CELLS, as far as they go, and behind them no letters."""
    takers, letters, burdens = {}, {}, []
    for number in range(len(rows) - 1):
        deed, target = book[2][number], rows[number + 1]
        burdens.append(burden(deed, rows[number]))
        if is_write(deed):
            takers[number] = tuple([place for place in deed[3] if target[place] == deed[2]])
            cells = cells_with(rows[number], takers[number], deed[2])
        else:
            cells = cells_behind(deed, rows[number])
        for place in range(book[0]):
            if cells[place] != target[place]:
                source = letter_with(book, burdens, number + 1, place, target[place])
                letters.setdefault(source, []).append((place, number + 1))
    return tuple([part_with(deed, takers.get(number), letters.get(number, []))
                  for number, deed in enumerate(book[2])])


def letter_with(book, burdens, moment, place, version):
    """The number of the first DEED whose letter can bring this VERSION there and then."""
    for number in range(moment):
        deed = book[2][number]
        if burdens[number] == version and place in sent_to(deed) and moment in coming(book, number):
            return number
    return None


def part_with(deed, takers, letters):
    """The part of a WORLD for this DEED; the first LOT takes a write that has no takers."""
    if is_write(deed):
        if takers is None:
            takers = deed[4][0]
        return takers, tuple(sorted(letters))
    return tuple(sorted([moment for _, moment in letters]))
