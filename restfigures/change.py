"""Change of base: the same number's figure with divisors put in or taken out."""

from restfigures.bases import base_of, divisors_of, refuse_bad_places
from restfigures.figures import figure_of, number_of


def put_in(base, figure, kept, spare):
    number = number_of(base, figure)
    wider = base_of(list(base[0]) + kept, list(base[1]) + spare)
    return (wider, figure_of(wider, number))


def taken_out(base, figure, places):
    number = number_of(base, figure)
    divisors = divisors_of(base)
    refuse_bad_places(places, len(divisors))
    first_spare = len(base[0])
    kept = [divisors[place] for place in range(first_spare) if place not in places]
    spare = [divisors[place] for place in range(first_spare, len(divisors)) if place not in places]
    # With no kept divisor left base_of refuses with BadBase, ahead of the look at whether the number fits.
    narrower = base_of(kept, spare)
    return (narrower, figure_of(narrower, number))
