"""Films: tuples (k, a, r, g, b) that let k of what lies beneath through and add a, r, g, b to it."""

from coverfill.ratios import NOUGHT, ONE, between, minus, plus, times


def cover(share):
    """The share held between nought and 1."""
    return between(share, NOUGHT, ONE)


def clear_film():
    """The film on which every ground stays as it is."""
    return (ONE, NOUGHT, NOUGHT, NOUGHT, NOUGHT)


def clear_ground():
    """The ground on which nothing lies."""
    return (NOUGHT, NOUGHT, NOUGHT, NOUGHT)


def rest_of(part):
    """What is left of 1."""
    return minus(ONE, part)


def multiplied(parts, by):
    return tuple([times(part, by) for part in parts])


def seen(film, ground):
    """The ground (a, r, g, b) that the film makes of this one."""
    through = multiplied(ground, film[0])
    return tuple([plus(film[1 + k], through[k]) for k in range(4)])


def ink_film(s, ink):
    """The film of a cover and an ink."""
    return (rest_of(s), s) + multiplied([(part, 1) for part in ink], s)


def rub_film(s):
    """The film that takes away the cover's part of what lies beneath."""
    return (rest_of(s), NOUGHT, NOUGHT, NOUGHT, NOUGHT)


def joined(upper, lower):
    """The one film that is seen as the upper one is on what the lower one makes."""
    # What the lower film adds lies beneath the upper one as a ground does.
    return (times(upper[0], lower[0]),) + seen(upper, lower[1:])


def mixed(film, t):
    """The film laid on by a strength: nought leaves what lies beneath, 1 is the film itself."""
    return (plus(rest_of(t), times(t, film[0])),) + multiplied(film[1:], t)


def alone(film, t):
    """What the film adds, by a strength, laid on as an ink is: it lets through all that this does not cover."""
    added = multiplied(film[1:], t)
    return (rest_of(added[0]),) + added
