"""How hard worths are to round: how near to a border of a form they come, and papers that show it."""

from oncenear.dots import added, compared, is_number, lesser, lowered, negated, size_of
from oncenear.kept import Kept
from oncenear.rounding import is_below_most, next_above, rounded_twos, step_power_of
from oncenear.stretches import Stretch
from oncenear.telling import FIRST_MORE, holds_worth, need_told, places_among, step_bits
from oncenear.worths import ends_of_worth, exact_at


class Case:
    """A place whose worth isn't exact, with its hardness and a stretch around its worth whose numbers all have that."""

    def __init__(self, number, stretch, level, step_exponent, borders):
        self.number = number
        self.stretch = stretch
        self.level = level
        self.step_exponent = step_exponent
        self.borders = borders


def hardness(form, word, number, *, way="near"):
    """The greatest h for which a border lies nearer to the worth than the step divided by 2 ** h, or None."""
    return hardness_from(Kept(), form, word, number, way)


def hardest(form, word, *, way="near"):
    """The greatest hardness of all places among the form's numbers, and the rising list of those that have it."""
    cases = cases_among(places_among(form, word, way), form, word, way, Kept())
    greatest = greatest_level(cases)
    return (greatest, [case.number for case in cases if case.level == greatest])


def hard_paper(form, word, *, way="near"):
    """A list of (number, stretch) that shows what hardest tells."""
    cases = cases_among(places_among(form, word, way), form, word, way, Kept())
    return [(case.number, case.stretch) for case in cases]


def judge_paper(form, word, thing, *, way="near"):
    """Whether a thing is a list that shows what hardest tells."""
    numbers = places_among(form, word, way)
    if not isinstance(thing, list) or not all([is_entry(entry) for entry in thing]):
        return False
    kept = Kept()
    cases = cases_among(numbers, form, word, way, kept)
    if [entry[0] for entry in thing] != [case.number for case in cases]:
        return False
    greatest = greatest_level(cases)
    for case, (number, stretch) in zip(cases, thing):
        if not shows_level(case, stretch, greatest) or not holds_worth(stretch, word, number, kept):
            return False
    return True


def hardness_from(kept, form, word, number, way):
    """What hardness tells, with what is kept already."""
    need_told(form, word, number, way, "series")
    if exact_at(word, number) is not None:
        return None
    return case_at(form, word, number, way, kept).level


def cases_among(numbers, form, word, way, kept):
    """The cases of those places whose worths aren't exact and aren't too great, by the way, for the form."""
    cases = []
    for number in numbers:
        if exact_at(word, number) is None:
            case = case_at(form, word, number, way, kept)
            m, e = case.stretch.low
            if is_below_most(form, rounded_twos(form, m, e, way)):
                cases.append(case)
    return cases


def case_at(form, word, number, way, kept):
    """The case of a place whose worth isn't exact."""
    bits = step_bits(form, word, number)
    more = FIRST_MORE
    while True:
        low, high, power = ends_of_worth(word, number, bits + more, "series", kept)
        case = case_of(form, number, Stretch(lowered(low, power), lowered(high, power)), way)
        if case is not None:
            return case
        # That ends, as the worth is no number: so its distance to a border isn't the step divided by any 2 ** h.
        more *= 2


def case_of(form, number, stretch, way):
    """The case of a place, None where not all numbers of the stretch around its worth have one step and hardness."""
    step_exponent = step_power_of(form, stretch.low)
    if step_power_of(form, stretch.high) != step_exponent:
        return None
    borders = borders_about(form, stretch.low, way)
    greatest, least = levels_of(stretch, step_exponent, borders)
    if greatest is None or greatest != least:
        return None
    return Case(number, stretch, greatest, step_exponent, borders)


def greatest_level(cases):
    """The greatest hardness of all cases, None where there is none."""
    return max([case.level for case in cases], default=None)


def levels_of(stretch, step_exponent, borders):
    """The greatest and the least hardness of the numbers of a stretch, both None where it reaches a border."""
    nearest, farthest = distances(stretch, borders)
    if nearest[0] <= 0:
        return None, None
    # The greatest h for which a distance is less than the step divided by 2 ** h.
    return step_exponent - 1 - size_of(nearest), step_exponent - 1 - size_of(farthest)


def borders_about(form, number, way):
    """The greatest border that is no greater than the number, and the next greater border."""
    m, e = number
    below = rounded_twos(form, m, e, "down")
    above = next_above(form, below)
    if way != "near":
        return below, above
    middle = midway(below, above)
    if compared(number, middle) < 0:
        return midway(negated(next_above(form, negated(below))), below), middle
    return middle, midway(above, next_above(form, above))


def midway(one, other):
    """The number midway between two."""
    m, e = added(one, other)
    return lowered(m, e - 1)


def distances(stretch, borders):
    """How far the numbers of a stretch between two borders are from the nearer one: the least and the greatest."""
    below, above = borders
    nearest = lesser(way_up(below, stretch.low), way_up(stretch.high, above))
    # The farthest one is an end of the stretch, or midway between the borders.
    farthest = lesser(way_up(below, stretch.high), way_up(stretch.low, above))
    return nearest, lesser(farthest, midway(above, negated(below)))


def way_up(one, other):
    """How far it is from one number up to another."""
    return added(other, negated(one))


def is_entry(thing):
    """Whether a thing is a tuple of a number and a stretch."""
    return (isinstance(thing, tuple) and len(thing) == 2
            and is_number(thing[0]) and isinstance(thing[1], Stretch))


def shows_level(case, stretch, greatest):
    """Whether all numbers of a stretch have the greatest hardness where the case has it, and less where it has less."""
    most, least = levels_of(stretch, case.step_exponent, case.borders)
    if most is None:
        return False
    if case.level == greatest:
        return most == least == greatest
    return most < greatest
