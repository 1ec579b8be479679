"""Papers of point [15] judged word by word, and papers made for puzzles, with none of the program's functions."""

from tests.worked_out import all_views


def views_by_cell(puzzle, t, fixed):
    cells = puzzle.ties[t][1]
    return [dict(zip(cells, row)) for row in all_views(puzzle, t, tuple(fixed.items()))]


def is_number(thing, bound):
    return type(thing) is int and 0 <= thing < bound


def are_triples(thing):
    return type(thing) is tuple and all(type(member) is tuple and len(member) == 3 for member in thing)


def is_step(puzzle, triple):
    t, cell, value = triple
    return (is_number(t, len(puzzle.ties)) and is_number(cell, puzzle.cell_count) and is_number(value, 2)
            and cell in puzzle.ties[t][1])


def shows(puzzle, fixed, paper):
    """Whether it is a paper that no filling has the values of fixed."""
    if type(paper) is not tuple or not paper or type(paper[0]) is not str:
        return False
    kinds = {"chain": (2, shows_chain), "ring": (3, shows_ring), "sum": (1, shows_sum), "split": (3, shows_split)}
    if paper[0] not in kinds:
        return False
    many, judge = kinds[paper[0]]
    return len(paper) == 1 + many and judge(puzzle, fixed, *paper[1:])


def shows_chain(puzzle, fixed, steps, last):
    fixed = dict(fixed)
    if not are_triples(steps) or not is_number(last, len(puzzle.ties)):
        return False
    for t, cell, value in steps:
        if not is_step(puzzle, (t, cell, value)) or cell in fixed:
            return False
        if {view[cell] for view in views_by_cell(puzzle, t, fixed)} != {value}:
            return False
        fixed[cell] = value
    return views_by_cell(puzzle, last, fixed) == []


def shows_ring(puzzle, fixed, cell, there, back):
    if not is_number(cell, puzzle.cell_count) or cell in fixed:
        return False
    for steps, here, end in ((there, (cell, 1), (cell, 0)), (back, (cell, 0), (cell, 1))):
        if not are_triples(steps) or steps == ():
            return False
        for step in steps:
            if not is_step(puzzle, step) or here[0] not in puzzle.ties[step[0]][1]:
                return False
            views = [view for view in views_by_cell(puzzle, step[0], fixed) if view[here[0]] == here[1]]
            if any(view[step[1]] != step[2] for view in views):
                return False
            here = step[1:]
        if here != end:
            return False
    return True


def shows_sum(puzzle, fixed, parts):
    if not are_triples(parts) or parts == ():
        return False
    all_cells = []
    for t, cells, bit in parts:
        if not is_number(t, len(puzzle.ties)) or type(cells) is not tuple or not is_number(bit, 2):
            return False
        if not all(is_step(puzzle, (t, cell, 0)) for cell in cells) or list(cells) != sorted(set(cells)):
            return False
        if any(sum(view[cell] for cell in cells) % 2 != bit for view in views_by_cell(puzzle, t, fixed)):
            return False
        all_cells.extend(cells)
    even = all(all_cells.count(cell) % 2 == 0 for cell in all_cells)
    return even and sum(bit for _, _, bit in parts) % 2 == 1


def shows_split(puzzle, fixed, cell, no, yes):
    if not is_number(cell, puzzle.cell_count) or cell in fixed:
        return False
    return shows(puzzle, {**fixed, cell: 0}, no) and shows(puzzle, {**fixed, cell: 1}, yes)


def forced_in_rounds(puzzle, fixed):
    """What is fixed in the end and by which steps, and the tie without views that was come to, or None."""
    fixed, steps = dict(fixed), []
    while True:
        empty = [t for t in range(len(puzzle.ties)) if not views_by_cell(puzzle, t, fixed)]
        if empty:
            return fixed, steps, empty[0]
        found = [(t, cell, value) for t, (_, cells) in enumerate(puzzle.ties) for cell in cells for value in (0, 1)
                 if cell not in fixed and {view[cell] for view in views_by_cell(puzzle, t, fixed)} == {value}]
        if not found:
            return fixed, steps, None
        steps.append(found[0])
        fixed[found[0][1]] = found[0][2]


def paper_by_splits(puzzle, fixed):
    """A paper of chains and splits, or None if there is a filling."""
    all_fixed, steps, last = forced_in_rounds(puzzle, fixed)
    if last is not None:
        return ("chain", tuple(steps), last)
    free = [cell for cell in range(puzzle.cell_count) if cell not in all_fixed]
    if not free:
        return None
    no = paper_by_splits(puzzle, {**fixed, free[0]: 0})
    yes = no and paper_by_splits(puzzle, {**fixed, free[0]: 1})
    return yes and ("split", free[0], no, yes)


def paper_by_ring(puzzle, fixed):
    """A ring, or None if no cell has one."""
    steps = {}
    for t, (_, cells) in enumerate(puzzle.ties):
        views = views_by_cell(puzzle, t, fixed)
        for here in [(cell, value) for cell in cells for value in (0, 1)]:
            for cell in cells:
                for value in (0, 1):
                    if all(view[cell] == value for view in views if view[here[0]] == here[1]):
                        steps.setdefault(here, []).append((t, cell, value))
    for cell in range(puzzle.cell_count):
        there, back = way(steps, (cell, 1), (cell, 0)), way(steps, (cell, 0), (cell, 1))
        if cell not in fixed and there and back:
            return ("ring", cell, there, back)
    return None


def way(steps, here, end):
    ways = {here: ()}
    waiting = [here]
    while waiting:
        at = waiting.pop(0)
        for step in steps.get(at, []):
            if step[1:] not in ways:
                ways[step[1:]] = ways[at] + (step,)
                waiting.append(step[1:])
    return ways.get(end)


def paper_by_sum(puzzle, fixed):
    """A sum, or None if no sum of what all views of single ties fulfil is odd."""
    found = []
    for t, (_, tied) in enumerate(puzzle.ties):
        cells = sorted(set(tied))
        for mask in range(2 ** len(cells)):
            chosen = tuple(cell for k, cell in enumerate(cells) if mask >> k & 1)
            bits = {sum(view[cell] for cell in chosen) % 2 for view in views_by_cell(puzzle, t, fixed)}
            found.extend((t, chosen, bit) for bit in (0, 1) if bits <= {bit} and (chosen or bit))
    return reduced(found)


def reduced(parts):
    """The parts by which nothing is left of the cells and 1 of the bits, or None."""
    by_cell = {}
    for part in parts:
        cells, bit, used = set(part[1]), part[2], {part}
        while cells and min(cells) in by_cell:
            others, other_bit, others_used = by_cell[min(cells)]
            cells, bit, used = cells ^ others, bit ^ other_bit, used ^ others_used
        if cells:
            by_cell[min(cells)] = (cells, bit, used)
        elif bit:
            return ("sum", tuple(sorted(used)))
    return None
