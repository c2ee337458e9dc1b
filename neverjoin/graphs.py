"""Steps between states: triples (state, letter, state), the states being integers, strings or pairs of these."""


def links(steps):
    """The dict from each state to the list of those to which steps lead from it."""
    found = {}
    for begin, _, end in steps:
        found.setdefault(begin, []).append(end)
    return found


def led_back(steps):
    """The steps, each led the other way."""
    return [(end, letter, begin) for begin, letter, end in steps]


def reached(leading, start):
    """The dict of True for all states to which links lead from a state, itself among them."""
    found = {start: True}
    waiting = [start]
    while waiting:
        begin = waiting.pop()
        for end in leading.get(begin, []):
            if end not in found:
                found[end] = True
                waiting.append(end)
    return found


def all_joined(states, steps):
    """Whether steps lead from each of some states, one or more, to each one."""
    ahead = reached(links(steps), states[0])
    behind = reached(links(led_back(steps)), states[0])
    return all([state in ahead and state in behind for state in states])


def lasting(steps):
    """Those steps that are parts of walks without beginning or end."""
    while True:
        begins = {begin: True for begin, _, _ in steps}
        ends = {end: True for _, _, end in steps}
        kept = [(begin, letter, end) for begin, letter, end in steps if begin in ends and end in begins]
        if len(kept) == len(steps):
            return kept
        steps = kept


def last_part(states, steps):
    """The dict of True for the states to which all of some states lead, where there are such."""
    behind = links(led_back(steps))
    seen = {}
    last = states[0]
    for state in states:
        if state not in seen:
            # All that lead to an earlier choice are seen, so one that is seen by none
            # is led to by none of the earlier ones: only the last choice can be led to by all.
            last = state
            seen.update(reached(behind, state))
    return reached(links(steps), last)


def shortest_row(leading, starts, goals):
    """The list of the marks on a shortest way from one of some states to one of others, None if there is none.

    What is leading has for each state the list of pairs (mark, state).
    """
    level = {start: [] for start in starts}
    seen = {start: True for start in starts}
    while level:
        found = {}
        for state in level:
            if state in goals:
                return level[state]
            for mark, end in leading[state]:
                if end not in seen:
                    seen[end] = True
                    found[end] = level[state] + [mark]
        level = found
    return None


def round_text(steps):
    """The text of steps that come round, None if none do."""
    kept = lasting(steps)
    if not kept:
        return None
    onward = {begin: (letter, end) for begin, letter, end in kept}
    state = kept[0][0]
    places = {}
    text = ""
    while state not in places:
        places[state] = len(text)
        letter, state = onward[state]
        text += letter
    return text[places[state]:]
