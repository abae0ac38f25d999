"""Moves: what lies in a stretch of a picture is lifted and put down elsewhere."""

from glazehall.tiles import copied


def lies_in(cell, stretch):
    return 0 <= cell[0] - stretch[0] < stretch[2] and 0 <= cell[1] - stretch[1] < stretch[3]


def cells_of(size):
    cells = []
    for y in range(size[1]):
        cells.extend([(x, y) for x in range(size[0])])
    return cells


# The picture is walked, never the stretch: a stretch may be as large as it likes.
def moved(cells, size, stretch, across, down):
    told = {}
    for cell in cells:
        if not lies_in(cell, stretch):
            told[cell] = copied(cells[cell])
    for cell in cells_of(size):
        goal = (cell[0] + across, cell[1] + down)
        if lies_in(cell, stretch) and lies_in(goal, (0, 0, size[0], size[1])):
            if cell in cells:
                told[goal] = copied(cells[cell])
            else:
                told.pop(goal, None)
    return told
