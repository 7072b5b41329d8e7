"""What all modules about finite machines share.

A table is a list with a stretch row for each state. A stretch row tells,
ascending, pairs (first, state): the signs from first on, up to the first of
the next pair, lead to this state. The first pair begins with the sign 0.
Kinds tell of each state whether it is marked.
"""


def stretched(targets):
    """The stretch row in which the signs from 0 on lead to these states."""
    row = []
    for sign, state in enumerate(targets):
        if not row or row[-1][1] != state:
            row.append((sign, state))
    return tuple(row)


def laid_out(row, signs):
    """The states to which the signs from 0 on lead."""
    targets = []
    for at, (first, state) in enumerate(row):
        behind = row[at + 1][0] if at + 1 < len(row) else signs
        targets.extend([state] * (behind - first))
    return targets


def renamed(row, names):
    """The stretch row that leads to the names of the states; stretches that become alike are one."""
    told = []
    last = None
    for first, state in row:
        name = names[state]
        if name != last:
            told.append((first, name))
            last = name
    return tuple(told)


def merged(left, right):
    """Triples (first, state, other state), ascending: where two stretch rows lead."""
    told = []
    at_left = at_right = 0
    while at_left < len(left) and at_right < len(right):
        first = max(left[at_left][0], right[at_right][0])
        told.append((first, left[at_left][1], right[at_right][1]))
        left_ends = left[at_left + 1][0] if at_left + 1 < len(left) else None
        right_ends = right[at_right + 1][0] if at_right + 1 < len(right) else None
        if right_ends is None or (left_ends is not None and left_ends <= right_ends):
            at_left += 1
        if left_ends is None or (right_ends is not None and right_ends <= left_ends):
            at_right += 1
    return told


def walked(rows, start):
    """The states that are reached, in the order of the least rows, and for each one (state ahead, sign)."""
    came = {start: None}
    order = [start]
    at = 0
    while at < len(order):
        state = order[at]
        for sign, target in rows[state]:
            if target not in came:
                came[target] = (state, sign)
                order.append(target)
        at += 1
    return order, came


def row_to(came, state):
    """The signs by which a state was come to, told by the pairs (state ahead, sign)."""
    signs = []
    step = came[state]
    while step is not None:
        signs.append(step[1])
        step = came[step[0]]
    return tuple(signs[::-1])


def steps_of(rows):
    """For each state the pairs (state behind, least sign that leads there)."""
    steps = []
    for row in rows:
        signs = {}
        for sign, target in row:
            signs.setdefault(target, sign)
        steps.append(list(signs.items()))
    return steps


def states_ahead(rows):
    """For each state the list of those from which a sign leads to it."""
    ahead = [[] for _ in rows]
    for state, steps in enumerate(steps_of(rows)):
        for target, _ in steps:
            ahead[target].append(state)
    return ahead


def blocks_of(rows, kinds):
    """For each state the number of its block: just the states of one block have the same texts."""
    blocks = [1 if kind else 0 for kind in kinds]
    members = [{}, {}]
    for state, block in enumerate(blocks):
        members[block][state] = True
    ahead = states_ahead(rows)
    looked_at = list(range(len(rows)))
    while looked_at:
        moved = split_blocks(blocks, members, grouped(rows, blocks, looked_at))
        seen = {}
        for state in moved:
            for before in ahead[state]:
                seen[before] = True
        looked_at = sorted(list(seen))
    return blocks


def grouped(rows, blocks, states):
    """For each block the groups of these states that lead to the same blocks."""
    groups = {}
    for state in states:
        of_block = groups.setdefault(blocks[state], {})
        of_block.setdefault(renamed(rows[state], blocks), []).append(state)
    return groups


def split_blocks(blocks, members, groups):
    """Parts the blocks; the states that get another block are returned.

    States that were not looked at lead where they led: those of one block are one
    group more. The greatest group keeps the block, so that few states move.
    """
    moved = []
    for block, of_block in groups.items():
        parts = list(of_block.values())
        told = sum([len(part) for part in parts])
        if told < len(members[block]):
            largest = max([len(part) for part in parts])
            if largest <= len(members[block]) - told:
                parts.append([])
            else:
                gone = {state: True for part in parts for state in part}
                parts.append([state for state in members[block] if state not in gone])
                parts = sorted(parts, key=len)
        else:
            parts = sorted(parts, key=len)
        for part in parts[:-1]:
            members.append({state: True for state in part})
            for state in part:
                del members[block][state]
                blocks[state] = len(members) - 1
            moved.extend(part)
    return moved


def least_table(rows, kinds, start):
    """The table with fewest states that has the same texts, in the order of least rows, and its kinds.

    It starts at 0.
    """
    order, _ = walked(rows, start)
    numbers = {state: number for number, state in enumerate(order)}
    kept = [renamed(rows[state], numbers) for state in order]
    blocks = blocks_of(kept, [kinds[state] for state in order])
    names = {}
    chosen = []
    for number, block in enumerate(blocks):
        if block not in names:
            names[block] = len(names)
            chosen.append(number)
    new_names = [names[block] for block in blocks]
    return [renamed(kept[number], new_names) for number in chosen], [kinds[order[number]] for number in chosen]


def leader_of(leaders, state):
    """The state that stands for all that were made one with this one."""
    top = state
    while leaders[top] != top:
        top = leaders[top]
    while leaders[state] != top:
        leaders[state], state = top, leaders[state]
    return top


def least_unlike(rows, kinds, one, other):
    """The least row of signs that is a text from just one of two states; None if there is none.

    Pairs are made one; a pair that follows from earlier ones is passed by: what parts it
    parts one of those, too, behind a lesser row.
    """
    if kinds[one] != kinds[other]:
        return ()
    leaders = list(range(len(rows)))
    leaders[one] = other
    pairs = [(one, other)]
    came = {0: None}
    at = 0
    while at < len(pairs):
        left, right = pairs[at]
        for sign, state, against in merged(rows[left], rows[right]):
            if kinds[state] != kinds[against]:
                return row_to(came, at) + (sign,)
            top, other_top = leader_of(leaders, state), leader_of(leaders, against)
            if top != other_top:
                leaders[top] = other_top
                came[len(pairs)] = (at, sign)
                pairs.append((state, against))
        at += 1
    return None


def components(nexts):
    """For each state the number of its ring (or of itself alone); a ring has a greater number than those behind it."""
    numbers, lows, found = {}, {}, {}
    rings = 0
    for start in range(len(nexts)):
        if start in numbers:
            continue
        held, todo = [], [(start, 0)]
        while todo:
            state, at = todo.pop()
            if at == 0:
                numbers[state] = lows[state] = len(numbers)
                held.append(state)
            elif nexts[state][at - 1] not in found:
                lows[state] = min(lows[state], lows[nexts[state][at - 1]])
            while at < len(nexts[state]) and nexts[state][at] in numbers:
                if nexts[state][at] not in found:
                    lows[state] = min(lows[state], numbers[nexts[state][at]])
                at += 1
            if at < len(nexts[state]):
                todo.append((state, at + 1))
                todo.append((nexts[state][at], 0))
            elif lows[state] == numbers[state]:
                while state not in found:
                    found[held.pop()] = rings
                rings += 1
    return [found[state] for state in range(len(nexts))]
