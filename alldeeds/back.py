"""Whether Wirings come of a deed, and the deed of which they do."""

from alldeeds.deeds import Deed
from alldeeds.taking import wirings_of_part
from alldeeds.turning import turned
from alldeeds.weaving import Weave, first_taking, stuck_part, weave_of_deed
from alldeeds.wirings import check_wirings


def comes_of_deed(wirings):
    """Whether it is the wirings of a deed."""
    check_wirings(wirings)
    weave = Weave(wirings)
    return stuck_part(weave, weave.whole) is None


def stuck_at(wirings):
    """The first Wirings on the told way that is no plain link and can be taken at no end; None if there is none."""
    check_wirings(wirings)
    weave = Weave(wirings)
    stuck = stuck_part(weave, weave.whole)
    if stuck is None:
        return None
    return wirings_of_part(weave, stuck)


def taking_step(place, within, parts):
    """The step that makes the place, with the steps of the Parts that were taken there."""
    last = len(parts[0].places) - 1
    if place.word == "between":
        return ("between", within[0], last - 1, last)
    if place.word == "chosen":
        side = place.halves.index(parts[0].places[-1])
        return ("choose", within[0], last, side, place.halves[1 - side].form)
    word = "both" if place.word == "both" else "offer"
    return (word, within[0], within[1], last, len(parts[1].places) - 1)


def ends_of_taking(place, parts):
    """The list of the ends of the step that makes the place, each by its number among all places."""
    # both steps of an offer have the rest of its ends
    with_rest = parts[:1] if place.word == "offered" else parts
    rest = [other.at for part in with_rest for other in part.places if other not in place.halves]
    return rest + [place.at]


def told_steps(weave, part):
    """The steps that the told way tells of a Part that comes of a deed."""
    if part.is_plain_link():
        first = part.places[0]
        return turned(("link", first.form[1]), (0, 1) if first.word == "good" else (1, 0))
    end, parts = first_taking(weave, part)
    place = part.places[end]
    step = taking_step(place, [told_steps(weave, taken) for taken in parts], parts)
    ends = ends_of_taking(place, parts)
    return turned(step, tuple([ends.index(other.at) for other in part.places]))


def deed_of(wirings):
    """The Deed that the told way tells."""
    check_wirings(wirings)
    weave = weave_of_deed(wirings)
    return Deed(told_steps(weave, weave.whole))
