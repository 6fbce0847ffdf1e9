"""Reading program texts."""

from tablelaws.errors import InvalidLine, KindMismatch, NameTaken, ProgramTooLarge, UnknownName, WrongKind
from tablelaws.lines import parse_line
from tablelaws.measures import MOST_DEGREE, MOST_HEIGHT, MOST_LINES, MOST_STEPS, MOST_WIDTH, measure_step
from tablelaws.names import name_kind
from tablelaws.programs import Program, redirected, references_of, step_kind

# A matrix that is given may have one degree less than other values.
MOST_GIVEN_DEGREE = 5


class Scope:
    """The names in reach of a line, with the places of their steps, and the steps that stand above the line.

    The first steps are the inputs: the letters of the main part, or the parameters of a function. The steps of
    parameters are only there to keep their places.
    """

    def __init__(self, inputs):
        self.inputs = inputs
        self.steps = [("letter", name) for name in inputs]
        self.places = {name: place for place, name in enumerate(inputs)}


class Function:
    """A function that can be called: the steps behind its parameters, and the place and the kind of its value."""

    def __init__(self, parameters, steps, place, kind):
        self.parameters = parameters
        self.steps = steps
        self.place = place
        self.kind = kind


class Reading:
    """What the lines of a text have told so far."""

    def __init__(self):
        # The scope of the main part; None as long as there is no `letters` line.
        self.main = None
        # The scope and the name of the function whose block is open.
        self.block = None
        self.name = None
        self.functions = {}
        # The measures of the steps of the main part.
        self.measures = []
        # The place of the step that is given.
        self.result = None


def read_program(text):
    """Returns the Program of a text; raises the error of the first line that has a fault."""
    state = Reading()
    lines = text.split("\n")
    for number, line in enumerate(lines, start=1):
        _read_line(state, line, number)
    if state.result is None:
        raise InvalidLine(len(lines) + 1)
    return Program("".join(state.main.inputs), state.main.steps, state.result)


def _read_line(state, line, number):
    if number > MOST_LINES:
        raise ProgramTooLarge(number)
    statement = parse_line(line, number)
    if not _may_stand(state, statement[0]):
        raise InvalidLine(number)
    action = ACTIONS[statement[0]]
    action(state, statement, number)


def _may_stand(state, word):
    """Tells whether a line that begins with this word may be the next one."""
    if state.main is None:
        return word == "letters"
    if state.result is not None:
        return False
    if state.block is not None:
        return word in ("let", "end")
    return word in ("let", "def", "give")


def _read_letters(state, statement, number):
    letters = statement[1]
    _check_different(letters, number)
    state.main = Scope(letters)
    _measure_steps(state, state.main.steps, number)


def _read_def(state, statement, number):
    _, name, parameters = statement
    _check_different(parameters, number)
    if name in state.functions:
        raise NameTaken(number)
    state.block = Scope(parameters)
    state.name = name


def _read_end(state, statement, number):
    scope = state.block
    name = statement[1]
    _check_known(scope, [name], number)
    steps = scope.steps[len(scope.inputs):]
    if len(steps) > MOST_STEPS:
        raise ProgramTooLarge(number)
    state.functions[state.name] = Function(scope.inputs, steps, scope.places[name], name_kind(name))
    state.block = None


def _read_give(state, statement, number):
    name = statement[1]
    _check_known(state.main, [name], number)
    place = state.main.places[name]
    if name_kind(name) == "matrix" and state.measures[place][0] > MOST_GIVEN_DEGREE:
        raise ProgramTooLarge(number)
    state.result = place


def _read_let(state, statement, number):
    _, name, operation = statement
    scope = state.main if state.block is None else state.block
    function = None
    if operation[0] == "call":
        function = state.functions.get(operation[1])
        if function is None:
            raise UnknownName(number)
    _check_known(scope, _names_in(operation), number)
    if _operation_kind(operation, function, number) != name_kind(name):
        raise KindMismatch(number)
    if name in scope.places:
        raise NameTaken(number)
    steps, place = _steps_of(scope, operation, function)
    if state.block is None:
        _measure_steps(state, steps, number)
    scope.steps.extend(steps)
    scope.places[name] = place


ACTIONS = {
    "letters": _read_letters,
    "def": _read_def,
    "end": _read_end,
    "give": _read_give,
    "let": _read_let,
}


def _names_in(operation):
    """Returns the list of the names of values that an operation uses."""
    if operation[0] == "call":
        return list(operation[2])
    return references_of(operation)


def _operation_kind(operation, function, number):
    """Returns the kind of the value of an operation; `function` is the one that a call names."""
    if function is not None:
        parameters = [name_kind(name) for name in function.parameters]
        if [name_kind(name) for name in _names_in(operation)] != parameters:
            raise KindMismatch(number)
        return function.kind
    kinds = {name: name_kind(name) for name in _names_in(operation)}
    try:
        return step_kind(operation, kinds)
    except WrongKind:
        raise KindMismatch(number) from None


def _steps_of(scope, operation, function):
    """Returns the list of the steps that an operation adds to a scope, and the place of its value."""
    first = len(scope.steps)
    if function is None:
        return ([redirected(operation, scope.places)], first)
    targets = [scope.places[name] for name in _names_in(operation)]
    added = []
    for step in function.steps:
        added.append(redirected(step, targets))
        targets.append(first + len(added) - 1)
    return (added, targets[function.place])


def _measure_steps(state, steps, number):
    """Adds the measures of new steps of the main part; stops at the first step that exceeds a limit."""
    for step in steps:
        degree, width, height = measure_step(step, state.measures)
        if degree > MOST_DEGREE or width > MOST_WIDTH or height > MOST_HEIGHT or len(state.measures) == MOST_STEPS:
            raise ProgramTooLarge(number)
        state.measures.append((degree, width, height))


def _check_known(scope, names, number):
    if not all([name in scope.places for name in names]):
        raise UnknownName(number)


def _check_different(names, number):
    if len(set(names)) < len(names):
        raise NameTaken(number)
