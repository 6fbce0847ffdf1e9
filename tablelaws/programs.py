"""Programs: lists of steps that compute a number or a matrix from unknown matrices."""

from tablelaws.errors import WrongKind

# The places of a step at which it names earlier values.
REFERENCES = {
    "letter": (),
    "one": (),
    "const": (),
    "sum": (1, 2),
    "diff": (1, 2),
    "times": (1, 2),
    "scale": (2,),
    "trace": (1,),
    "power": (1,),
}


class Program:
    """A program; `kinds` is the tuple of the kinds of its steps, and `kind` is that of its result."""

    def __init__(self, letters, steps, result):
        kinds = []
        for step in steps:
            kinds.append(step_kind(step, kinds))
        self.letters = letters
        self.steps = tuple(steps)
        self.kinds = tuple(kinds)
        self.result = result
        self.kind = kinds[result]


def references_of(step):
    """Returns the list of what a step names: indices, or names if the step is an operation of a line."""
    return [step[place] for place in REFERENCES[step[0]]]


def redirected(step, targets):
    """Returns the step that names, in the place of each earlier value, its item in `targets`."""
    places = REFERENCES[step[0]]
    return tuple([targets[part] if place in places else part for place, part in enumerate(step)])


def step_kind(step, kinds):
    """Returns the kind of a step from the kinds of the values that it names; raises WrongKind if they do not fit."""
    word = step[0]
    named = [kinds[part] for part in references_of(step)]
    if word in ("sum", "diff") and named[0] != named[1]:
        raise WrongKind(f"a {word} of a {named[0]} and a {named[1]}")
    if word == "trace" and named[0] == "number":
        raise WrongKind("a number has no trace")
    if word in ("const", "trace"):
        return "number"
    if word in ("letter", "one") or "matrix" in named:
        return "matrix"
    return "number"
