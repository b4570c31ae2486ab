"""Greatest matchings: as many cuts as there can be, each cutter at one back."""


def matched(cutters, backs, pairs):
    """Any greatest matching of pairs, which have one of cutters and one of backs each."""
    reached = {cutter: [back for other, back in pairs if other == cutter] for cutter in cutters}
    cutter_of = {}
    for cutter in cutters:
        _find_back(reached, cutter_of, cutter, [])
    return tuple(sorted([(cutter_of[back], back) for back in backs if back in cutter_of]))


def _find_back(reached, cutter_of, cutter, tried):
    """Gives cutter a back that is not tried, if need be by giving its cutter another one; whether this succeeds."""
    for back in reached[cutter]:
        if back in tried:
            continue
        # What could not be changed once cannot be changed on the same way by another one, either.
        tried.append(back)
        if back not in cutter_of or _find_back(reached, cutter_of, cutter_of[back], tried):
            cutter_of[back] = cutter
            return True
    return False
