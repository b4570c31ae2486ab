"""Least covers: cutters and backs that show that no more can be cut."""
from whateverothers.matching import matched


def least_cover(cutters, backs, pairs):
    """Any cover of pairs, a pair of some of cutters and some of backs, with as few of both as there can be."""
    cutter_of = {back: cutter for cutter, back in matched(cutters, backs, pairs)}
    taken = list(cutter_of.values())
    come_to = [cutter for cutter in cutters if cutter not in taken]
    backs_come_to = []
    # Each back come to is matched, otherwise a greater matching could be had along the way to it. So the cutters not
    # come to and the backs come to are in unlike pairs of the matching, and no pair leads from the others to others.
    while True:
        further = [back for cutter, back in pairs if cutter in come_to and back not in backs_come_to]
        if len(further) == 0:
            break
        backs_come_to.append(further[0])
        come_to.append(cutter_of[further[0]])
    return (tuple([cutter for cutter in cutters if cutter not in come_to]), tuple(sorted(backs_come_to)))
