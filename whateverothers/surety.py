"""What is sure by own orders, whatever all others order."""
from whateverothers.bars import bars_of, foreign_near, pairs_of
from whateverothers.grounds import Ground
from whateverothers.matching import matched
from whateverothers.sound import is_going, own_met_by


def harm(board, bar):
    """The most harm that bar can do: how many help in it, and how many backs can be cut."""
    return harm_of(Ground(board), bar)


def chain(board, own, place):
    """The places from that of an own piece along gos to fields of own pieces, each once."""
    return chain_of(Ground(board), own, place)


def sure(board, own, place):
    """Whether the go of the own piece with this place wins, or nobody's go into its field, for all orders of others."""
    return is_sure(Ground(board), own, place)


def shut(board, own, field):
    """Whether no foreign piece can come into field, which is free."""
    return is_shut(Ground(board), own, field)


def harm_of(ground, bar):
    """The most harm that bar can do on this ground."""
    return len(bar[2]) + len(matched(bar[3], bar[4], pairs_of(ground, bar)))


def chain_of(ground, own, place):
    """The chain of the own piece with this place."""
    places = [place]
    while is_going(own, places[-1]):
        met = own_met_by(ground, own, places[-1])
        if met is None or met in places:
            break
        places.append(met)
    return tuple(places)


def bars_in_way(ground, own, place):
    """The bars of all places of the chain of the own piece with this place, in order."""
    return [bar for link in chain_of(ground, own, place) for bar in bars_of(ground, own, link)]


def is_withstood(own, place, bar, done):
    """Whether the backs of this bar, of the own piece with this place or of its chain, withstand so much harm."""
    # Who goes has to be stronger; who does not go, or keeps others out of a field, only as strong.
    if is_going(own, place):
        return done < len(bar[4])
    return done <= len(bar[4])


def is_sure(ground, own, place):
    """Whether what is ordered to the own piece with this place comes about, for all orders of others."""
    return all([is_withstood(own, place, bar, harm_of(ground, bar)) for bar in bars_in_way(ground, own, place)])


def is_shut(ground, own, field):
    """Whether no foreign piece can come into field, which is free, on this ground."""
    if len(foreign_near(ground, own, field)) == 0:
        return True
    if ("go", field) not in own:
        return False
    # As field is free, the bars of the one that goes there are those of all foreign pieces near it.
    return all([harm_of(ground, bar) <= len(bar[4]) for bar in bars_of(ground, own, own.index(("go", field)))])
