"""Programs by what they do."""

from alldeeds.back import deed_of
from alldeeds.checking import Program
from alldeeds.entering import fits_entry
from alldeeds.entries import check_listed_sets
from alldeeds.errors import BadValue, Taken, Unknown, Unlike
from alldeeds.likeness import alike, parting
from alldeeds.meanings import meaning_of
from alldeeds.programdeeds import check_is_program, deed_of_program, forms_of_program
from alldeeds.readback import program_of_deed
from alldeeds.terms import names_in_term, with_parts
from alldeeds.values import is_list
from alldeeds.wired import wirings_of


def plain_program(program):
    """The plain Program of the Program."""
    return program_of_deed(deed_of(wirings_of(deed_of_program(program))))


def deeds_of_like(one, other):
    """The Deeds of two Programs with the same kinds of inputs and of terms."""
    check_is_program(one)
    check_is_program(other)
    kinds = [[kind for _, kind in program.inputs] + [program.kind] for program in (one, other)]
    if kinds[0] != kinds[1]:
        raise Unlike()
    return (deed_of_program(one), deed_of_program(other))


def alike_programs(one, other):
    """Whether the two Programs are alike."""
    deed, other_deed = deeds_of_like(one, other)
    return alike(deed, other_deed)


def parting_programs(one, other):
    """What parts the deeds of the two Programs; None if they are alike."""
    deed, other_deed = deeds_of_like(one, other)
    return parting(deed, other_deed)


def check_given(program, sets, given):
    """Raises BadValue for what is no list of entries, one for each input."""
    forms = forms_of_program(program)[:-1]
    if not is_list(given) or len(given) != len(forms):
        raise BadValue(given)
    if not all([fits_entry(form, sets, entry) for form, entry in zip(forms, given)]):
        raise BadValue(given)


def results(program, sets, given):
    """The ascending list of the results of the Program for the entries that are given for its inputs."""
    check_is_program(program)
    check_listed_sets(sets, forms_of_program(program))
    check_given(program, sets, given)
    entries = meaning_of(wirings_of(deed_of_program(program)), sets)
    return [entry[-1] for entry in entries if entry[:-1] == tuple(given)]


def names_of(program):
    """The list of all names in the Program."""
    return [name for name, _ in program.inputs] + names_in_term(program.term)


def put_for_name(term, name, other):
    """The term with the other one in the place of each name."""
    if term == ("name", name):
        return other
    return with_parts(term, lambda part: put_for_name(part, name, other))


def check_composed(one, other, name):
    """Raises Unknown, Taken or Unlike if the two Programs cannot be composed."""
    kinds = dict(other.inputs)
    if name not in kinds:
        raise Unknown(name)
    common = sorted(set(names_of(one)) & set(names_of(other)))
    if common:
        raise Taken(common[0])
    if kinds[name] != one.kind:
        raise Unlike()


def composed(one, other, name):
    """The Program of the other one, with the term of the one in the place of the input with this name."""
    check_is_program(one)
    check_is_program(other)
    if not isinstance(name, str):
        raise BadValue(name)
    check_composed(one, other, name)
    inputs = one.inputs + tuple([pair for pair in other.inputs if pair[0] != name])
    return Program(inputs, put_for_name(other.term, name, one.term))
