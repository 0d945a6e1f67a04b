"""Showing worlds as tables."""


def world_table(world):
    """The lines of a table of a world: a column for each eye, and behind the first line a line for each case."""
    partings = world.partings()
    yield table_line("case", list(partings))
    for case in range(1, world.many + 1):
        yield table_line(f"{case:>4}", [partings[name][case - 1] for name in partings])


def table_line(first, cells):
    """The line that begins with a first word of 4 columns and has these cells."""
    return first + "".join([f" {cell:>6}" for cell in cells])
