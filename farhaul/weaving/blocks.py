"""Blocks, whose rows are written one by one and whose columns are sent one by one."""

from farhaul.errors import OutOfRange, WrongPlace, WrongSize

MOST = 300


def woven(rows, columns, items):
    """Return the items of a block, given row by row, in the order in which they are sent."""
    _need_block(rows, columns)
    _need_items(rows, columns, items)
    return [items[i * columns + j] for j in range(columns) for i in range(rows)]


def unwoven(rows, columns, items):
    """Return the items of a block, given in the order in which they are sent, row by row."""
    _need_block(rows, columns)
    _need_items(rows, columns, items)
    return [items[j * rows + i] for i in range(rows) for j in range(columns)]


def time_of(rows, columns, index):
    """Return the time at which the item with the index is sent."""
    _need_block(rows, columns)
    if index < 0 or index >= rows * columns:
        raise WrongPlace(0)
    return index % columns * rows + index // columns


def spread(rows, columns, burst):
    """Return the greatest number of items of one row that are sent in a burst."""
    _need_block(rows, columns)
    if burst < 0 or burst > rows * columns:
        raise OutOfRange(2)
    return (burst + rows - 1) // rows


def _need_block(rows, columns):
    """Raise an error unless the numbers of rows and columns are in their range."""
    if rows < 1 or rows > MOST:
        raise OutOfRange(0)
    if columns < 1 or columns > MOST:
        raise OutOfRange(1)


def _need_items(rows, columns, items):
    """Raise an error unless the items fill the block."""
    if len(items) != rows * columns:
        raise WrongSize(0)
