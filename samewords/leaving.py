"""What may be left out of plain programs: idle lets, equal values, words that are always the same."""

from samewords.checks import is_name
from samewords.errors import BadName
from samewords.formulas import Name, Number, put_in
from samewords.plain import degrees_of_lets, laid_small, tables, tables_of_laid
from samewords.programs import Program, check_program
from samewords.tables import table_of_small


def without(program, name):
    """Return the program in which the let of this name has Number(0) as its value."""
    check_program(program)
    if not is_name(name) or name not in let_names(program):
        raise BadName(name)
    lets = [(one, Number(0) if one == name else value) for one, value in program.lets]
    return Program(program.width, program.inputs, program.defs, lets, program.outs)


def idle(program):
    """Return the list of the names of the lets that are idle, each asked by itself."""
    laid = laid_small(program)
    found = tables_of_laid(laid)
    return [name for name in let_names(laid) if is_idle(laid, found, name)]


def classes(program):
    """Return the list of the lists of two or more names that have the same table."""
    found = tables(program)
    groups = []
    for name in found:
        same = [group for group in groups if found[group[0]] == found[name]]
        if same:
            same[0].append(name)
        else:
            groups.append([name])
    return [group for group in groups if len(group) > 1]


def constants(program):
    """Return the dict from the lets that have the same word for all inputs to this word."""
    found = tables(program)
    return {name: found[name].word_at({}) for name in found if not found[name].inputs}


def lean(program):
    """Return the program without what may be left out."""
    left = laid_small(program)
    while True:
        found = tables_of_laid(left)
        left = with_equals(with_constants(left, found), found)
        left = with_names(left)
        less = without_idle(left, found)
        if len(less.lets) == len(left.lets):
            return left
        left = less


def let_names(program):
    """Return the list of the names of the lets."""
    return [name for name, _ in program.lets]


def with_lets(laid, lets):
    """Return the program without defs with other lets."""
    return Program(laid.width, laid.inputs, (), lets, laid.outs)


def with_constants(laid, found):
    """Return the program in which each let with the same word for all inputs is this word."""
    lets = []
    for name, value in laid.lets:
        always = not found[name].inputs
        lets.append((name, Number(found[name].word_at({})) if always else value))
    return with_lets(laid, lets)


def with_equals(laid, found):
    """Return the program in which a let that is equal to something ahead of it is the name of that."""
    known = degrees_of_lets(laid)
    for name in laid.inputs:
        known[name] = {name: 1}
    ahead = list(laid.inputs)
    lets = []
    for name, value in laid.lets:
        equal = [one for one in ahead if found[one] == found[name] and is_nowhere_above(known[one], known[name])]
        ahead.append(name)
        lets.append((name, Name(equal[0]) if equal and found[name].inputs else value))
    return with_lets(laid, lets)


def is_nowhere_above(one, other):
    """Tell whether no degree of one is above the same degree of the other."""
    return all([one[name] <= other.get(name, 0) for name in one])


def with_names(laid):
    """Return the program in which no formula has the name of a let that is a bare number or name."""
    bare = {}
    lets = []
    for name, value in laid.lets:
        # What is bare ahead of it is done already, so that one putting in is enough.
        named = put_in(value, bare, {})
        lets.append((name, named))
        if isinstance(named, (Name, Number)):
            bare[name] = named
    return with_lets(laid, lets)


def without_idle(laid, found):
    """Return the program without its idle lets that are no outs, asked from the last one to the first."""
    left = laid
    for name in reversed(let_names(laid)):
        if name not in left.outs and is_idle(left, found, name):
            found = tables_without(left, found, name)
            lets = [(one, put_in(value, {name: Number(0)}, {})) for one, value in left.lets if one != name]
            left = with_lets(left, lets)
    return left


def is_idle(laid, found, name):
    """Tell whether no out changes if the let of this name becomes 0; found has the tables as it stands."""
    changed = tables_without(laid, found, name)
    return all([changed[out] == found[out] for out in laid.outs])


def tables_without(laid, found, name):
    """Return the tables that the program has once the let of this name is 0, found those as it stands."""
    changed = {one: found[one] for one in laid.inputs}
    unlike = {}
    for one, value in laid.lets:
        if one == name:
            changed[one] = table_of_small(Number(0), laid.width, {})
        elif any([used in unlike for used in value.input_names()]):
            changed[one] = table_of_small(value, laid.width, changed)
        else:
            changed[one] = found[one]
        if not changed[one] == found[one]:
            unlike[one] = True
    return changed
