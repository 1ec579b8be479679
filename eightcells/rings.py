"""Rings: of a cell that each of its values leads to the other one."""

from eightcells.masks import cells_in


def ring_of(masks, known, yes):
    """A ring at a cell that is not known, or None if there is none."""
    steps = _steps_from(masks, known, yes)
    for cell in range(masks.cell_count):
        if not known >> cell & 1:
            there = _way(steps, (cell, 1), (cell, 0))
            back = _way(steps, (cell, 0), (cell, 1)) if there else ()
            if there and back:
                return ("ring", cell, there, back)
    return None


def _steps_from(masks, known, yes):
    """For each cell and value the cells and values that a tie leads to from there, each with such a tie."""
    steps = {}
    for t in masks.ties:
        rows = masks.rows_left(t, known, yes)
        # No way needs to lead through what is known: all views of a tie have one value there.
        cells = cells_in(masks.cells[t] & ~known)
        for cell in cells:
            for value in (0, 1):
                found = steps.setdefault((cell, value), {})
                for there in _led_to(rows, cells, cell, value):
                    found.setdefault(there, t)
    return steps


def _led_to(rows, cells, cell, value):
    left = [row for row in rows if row >> cell & 1 == value]
    return [(other, told) for other in cells for told in (0, 1)
            if all([row >> other & 1 == told for row in left])]


def _way(steps, first, last):
    """The steps of a shortest way from the first cell and value to the last, () if there is none."""
    before = {first: first}
    reached = [first]
    while reached and last not in before:
        further = []
        for here in reached:
            for there in steps.get(here, {}):
                if there not in before:
                    before[there] = here
                    further.append(there)
        reached = further
    return _walked(steps, before, first, last) if last in before else ()


def _walked(steps, before, first, last):
    found = []
    here = last
    while here != first:
        found.append((steps[before[here]][here],) + here)
        here = before[here]
    return tuple(found[::-1])
