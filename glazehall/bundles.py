"""Bundles: a hall as a text, without its stands, and the hall read from such a text."""

from glazehall.errors import HallError, NoBundle
from glazehall.fractions import made
from glazehall.hall import Hall, refuse_no_sixteenth
from glazehall.layers import new_adjust, new_group, new_paint
from glazehall.moves import cells_of
from glazehall.shades import CLEAR, is_shade

# How many words the row of each kind has, behind the first row.
LENGTHS = {"paint": 5, "adjust": 6, "group": 6, "cell": 5, "mask": 4}


def row_of(words):
    return " ".join([str(word) for word in words])


def written(fraction):
    top = fraction[0]
    bottom = fraction[1]
    return f"{top}/{bottom}"


def layer_row(hall, number):
    listed = hall.layer(number)
    words = [listed[0], number] + list(listed[1:])
    if listed[0] == "group":
        words[-1] = "through" if listed[4] else "alone"
    return row_of(words)


def cell_rows(hall, number):
    rows = []
    for cell in cells_of(hall.size):
        found = hall.cell(number, cell[0], cell[1])
        if found != CLEAR:
            rows.append(row_of(["cell", cell[0], cell[1], written(found[0]), written(found[1])]))
    return rows


def mask_rows(hall, number):
    rows = []
    for cell in cells_of(hall.size):
        m = hall.mask_at(number, cell[0], cell[1])
        if m != 16:
            rows.append(row_of(["mask", cell[0], cell[1], m]))
    return rows


def rows_within(hall, into):
    rows = []
    for number in hall.order(into):
        kind = hall.layer(number)[0]
        rows.append(layer_row(hall, number))
        if kind == "paint":
            rows.extend(cell_rows(hall, number))
        rows.extend(mask_rows(hall, number))
        if kind == "group":
            rows.extend(rows_within(hall, number))
    return rows


def bundle(hall):
    rows = [row_of(["hall", hall.size[0], hall.size[1], hall.next_number])]
    rows.extend(rows_within(hall, 0))
    return "\n".join(rows) + "\n"


def words_of(row):
    words = row.split(" ")
    if len(words) != LENGTHS.get(words[0]):
        raise NoBundle("a row of no kind, or of too few or too many words")
    return words


def number_of(word):
    try:
        return int(word)
    except ValueError:
        raise NoBundle("a number is written by figures") from None


def sixteenth_of(word):
    m = number_of(word)
    refuse_no_sixteenth(m)
    return m


def fraction_of(word):
    parts = word.split("/")
    if len(parts) != 2:
        raise NoBundle("a fraction is written as two numbers")
    return made(number_of(parts[0]), number_of(parts[1]))


def cell_of(hall, words):
    x = number_of(words[1])
    y = number_of(words[2])
    hall.refuse_outside(x, y)
    return (x, y)


def source_of(words):
    source = (fraction_of(words[3]), fraction_of(words[4]))
    if not is_shade(source):
        raise NoBundle("a cell that has no shade")
    return source


def read_head(row):
    words = row.split(" ")
    if len(words) != 4:
        raise NoBundle("a first row of too few or too many words")
    hall = Hall(number_of(words[1]), number_of(words[2]))
    hall.next_number = number_of(words[3])
    if hall.next_number < 1:
        raise NoBundle("numbers of layers begin with 1")
    return hall


def layer_of(store, words):
    if words[0] == "paint":
        return new_paint(store, words[4])
    if words[0] == "adjust":
        return new_adjust(store, number_of(words[4]), number_of(words[5]))
    return new_group(store, words[4], words[5] == "through")


def read_layer(hall, words):
    number = number_of(words[1])
    into = number_of(words[2])
    if number < 1 or number >= hall.next_number or number in hall.now.stack:
        raise NoBundle("a number that this layer can't have")
    layer = layer_of(hall.store, words)
    layer.power = sixteenth_of(words[3])
    at = len(hall.order(into))
    hall.now.refuse_crowd(number, into)
    hall.now.enter(number, layer, into, at)
    return number


# A row is read for the layer read last; the layer is told for which the next one is.
def read_row(hall, number, words):
    if words[0] == "cell":
        hall.now.paint_of(number).shades.put(cell_of(hall, words), source_of(words))
        return number
    if words[0] == "mask":
        hall.now.layer_of(number).veil.put(cell_of(hall, words), sixteenth_of(words[3]))
        return number
    return read_layer(hall, words)


def hall_of(text):
    rows = text.split("\n")
    hall = read_head(rows[0])
    number = 0
    for row in rows[1:-1]:
        number = read_row(hall, number, words_of(row))
    return hall


# Reading is loose as to how and in which order things are written; that the hall's own bundle is just this text is not.
def read_bundle(text):
    if not isinstance(text, str):
        raise NoBundle("a bundle is a text")
    try:
        hall = hall_of(text)
    except HallError:
        raise NoBundle("a text that is no hall's bundle") from None
    if bundle(hall) != text:
        raise NoBundle("a text that is written otherwise than a bundle")
    hall.now.renew_all(cells_of(hall.size))
    return hall
