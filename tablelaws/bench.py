"""The bench: programs under names, which are compared at one size."""

from tablelaws.errors import InvalidName, MissingProgram, ProgramExists
from tablelaws.expanding import expand
from tablelaws.matrices import Matrix, check_size
from tablelaws.names import name_kind
from tablelaws.normalforms import normal_form
from tablelaws.ratios import Ratio
from tablelaws.reading import read_program
from tablelaws.running import run_program
from tablelaws.verdicts import compare_programs


class Bench:
    """Programs under names, in the order in which they were loaded, and the size at which they are compared."""

    def __init__(self, size):
        check_size(size)
        self.size = size
        self._programs = {}

    def __len__(self):
        return len(self._programs)

    def __iter__(self):
        return iter(self._programs)

    def __contains__(self, x):
        return x in self._programs

    def __getitem__(self, at):
        if at not in self._programs:
            raise MissingProgram(f"no program {at}")
        return self._programs[at]

    def load(self, name, text):
        """Adds the program of a text under a new name."""
        if name_kind(name) != "matrix":
            raise InvalidName(f"not one to eight small letters: {name!r}")
        if name in self._programs:
            raise ProgramExists(f"there is a program {name}")
        self._programs[name] = read_program(text)

    def reload(self, name, text):
        """Puts the program of a text in the place of a program."""
        self._check_present(name)
        self._programs[name] = read_program(text)

    def drop(self, name):
        """Removes a program."""
        self._check_present(name)
        del self._programs[name]

    def resize(self, size):
        """Sets the size for all later calls."""
        check_size(size)
        self.size = size

    def all_letters(self):
        """Returns the letters of all programs in ascending order, each once."""
        letters = "".join([program.letters for program in self._programs.values()])
        return "".join(sorted(set(letters)))

    def normal(self, name):
        """Returns the normal form of a program's polynomial."""
        return normal_form(self.size, expand(self[name], self.size))

    def compare(self, first, second):
        """Returns the verdict about two programs."""
        return compare_programs(self.size, self[first], self[second])

    def results(self, matrices):
        """Returns the list of the results of all programs at matrices of the size."""
        return [run_program(program, self.size, matrices) for program in self._programs.values()]

    def classes(self):
        """Returns the tuple of the classes of programs that are alike, each a tuple of names."""
        forms = []
        groups = []
        for name in self._programs:
            form = self.normal(name)
            if form in forms:
                groups[forms.index(form)].append(name)
            else:
                forms.append(form)
                groups.append([name])
        return tuple([tuple(group) for group in groups])

    def separator(self):
        """Returns matrices for all letters at which programs of one kind have equal results only if they are alike."""
        matrices = {letter: Matrix.zero(self.size) for letter in self.all_letters()}
        parted = []
        for first, second in self._unlike_pairs():
            parted.append((first, second))
            verdict = self.compare(first, second)
            matrices = self._parting_point(parted, matrices, {**matrices, **verdict.matrices})
        return matrices

    def _check_present(self, name):
        if name not in self._programs:
            raise MissingProgram(f"no program {name}")

    def _unlike_pairs(self):
        """Returns the list of the pairs of first names of different classes of the same kind."""
        names = [group[0] for group in self.classes()]
        pairs = []
        for k, second in enumerate(names):
            pairs.extend([(first, second) for first in names[:k] if self[first].kind == self[second].kind])
        return pairs

    def _parting_point(self, pairs, start, goal):
        """Returns the first point, on the line from one point to another, at which the results of all pairs differ.

        The points are dicts from letters to matrices. All pairs but the last have different results at `start`, and
        the last pair at `goal`. So each pair has equal results at few points only, and the search ends.
        """
        point = start
        t = 0
        while not self._are_parted(pairs, point):
            t = t + 1
            point = {letter: start[letter] + (goal[letter] - start[letter]).scaled(Ratio(t)) for letter in start}
        return point

    def _are_parted(self, pairs, matrices):
        results = {name: result for name, result in zip(self._programs, self.results(matrices))}
        return all([results[first] != results[second] for first, second in pairs])
