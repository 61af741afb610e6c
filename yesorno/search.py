"""The search: yes with held parts, or no with a paper.

Parts are held one behind the other, as rows force them or as they are chosen. Where a row fails, or there is a
clash, a line is learnt of it; what was chosen is taken back as far as the line says, and its row forces a part.
"""

from yesorno.clashes import clash
from yesorno.errors import TooLong
from yesorno.learning import learnt


class Hunt:
    # Each row of two parts or more watches two of them: as long as neither of these fails, the row neither fails
    # nor forces, so that only the rows that watch a part are looked at when it comes to fail.
    def __init__(self, problem, most):
        self.problem = problem
        self.most = most
        self.known = list(problem.rows)
        self.paper = []
        self.trail = []
        self.held = {}
        self.looked = 0
        self.begins = []
        self.watched = {}
        self.watching = {}
        self.order = list(range(1, len(problem.atoms) + 1))
        self.lately = {}

    def hold(self, part, why):
        self.trail.append((part, why))
        self.held[part] = True

    def watch(self, number, one, other):
        self.watched[number] = (one, other)
        self.watching.setdefault(one, []).append(number)
        self.watching.setdefault(other, []).append(number)

    def begin(self):
        # As grow, but rows of one part and of none watch nothing and are looked at here alone.
        for number, row in enumerate(self.known):
            if len(row) > 1:
                self.watch(number, row[0], row[1])
            elif len(row) == 0 or -row[0] in self.held:
                return number
            elif row[0] not in self.held:
                self.hold(row[0], number)
        return self.grow()

    def finds(self, number, other):
        # Whether the row finds a part to watch beside the other one, in the place of one that fails.
        for part in self.known[number]:
            if part != other and -part not in self.held:
                self.watched[number] = (other, part)
                self.watching.setdefault(part, []).append(number)
                return True
        return False

    def look_at(self, part):
        # The number of a row that fails as the part does, else None.
        fails = None
        stay = []
        for number in self.watching.get(part, []):
            pair = self.watched[number]
            other = pair[1] if pair[0] == part else pair[0]
            if other in self.held:
                stay.append(number)
            elif not self.finds(number, other):
                stay.append(number)
                if -other in self.held:
                    fails = number
                else:
                    self.hold(other, number)
        self.watching[part] = stay
        return fails

    def grow(self):
        # The number of a row that fails, be it one that is put for a clash, else None.
        while self.looked < len(self.trail):
            fails = self.look_at(-self.trail[self.looked][0])
            self.looked += 1
            if fails is not None:
                return fails
        line = clash(self.problem, [step[0] for step in self.trail])
        return None if line is None else self.put(line)

    def put(self, line):
        if len(self.paper) >= self.most:
            raise TooLong("more lines would be put than are let")
        self.paper.append(line)
        self.known.append(line[1])
        # The two whose opposites were held last are the first to be open again.
        latest = [-step[0] for step in reversed(self.trail) if -step[0] in line[1]]
        if len(latest) > 1:
            self.watch(len(self.known) - 1, latest[0], latest[1])
        return len(self.known) - 1

    def cut(self, level):
        while len(self.begins) > level:
            begin = self.begins.pop()
            for step in self.trail[begin:]:
                self.held.pop(step[0])
                self.lately[abs(step[0])] = step[0]
            self.trail = self.trail[:begin]
        self.looked = len(self.trail)

    def learn(self, fails):
        # Whether there is something to go on with.
        told = learnt(self.known, self.trail, fails)
        parts = told[0]
        # A row that is learnt of itself alone is there already.
        forcing = fails if len(told[1]) == 1 and len(parts) > 0 else self.put(("learnt", parts, told[1]))
        if len(parts) == 0:
            return False
        self.cut(told[2])
        self.hold(parts[0], forcing)
        fresh = [abs(part) for part in parts]
        self.order = fresh + [atom for atom in self.order if atom not in fresh]
        return True

    def choose(self):
        # Whether there was an atom left: those of the last lines first, each as it was held lately.
        for atom in self.order:
            if atom not in self.held and -atom not in self.held:
                self.begins.append(len(self.trail))
                self.hold(self.lately.get(atom, -atom), -1)
                return True
        return False

    def held_parts(self):
        return tuple([atom if atom in self.held else -atom for atom in sorted(self.order)])


def search(problem, most=2000):
    hunt = Hunt(problem, most)
    fails = hunt.begin()
    while True:
        if fails is not None:
            if not hunt.learn(fails):
                return ("no", hunt.paper)
        elif not hunt.choose():
            return ("yes", hunt.held_parts())
        fails = hunt.grow()
