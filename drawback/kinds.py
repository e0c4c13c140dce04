"""Kinds of goods, raw or made, and the raw units that a unit of each holds."""

from drawback.errors import BadParts, Full, NoKind, TooMuch

MOST_KINDS = 12
MOST_NUMBER = 100
MOST_HELD = 10000


def check_parts(parts, many):
    """Parts of a kind that is made where so many kinds are there."""
    if not parts:
        raise BadParts("a made kind has parts")
    ahead = 0
    for kind, number in parts:
        if not ahead < kind <= many:
            raise BadParts("parts are kinds that are there, rising, each once")
        if not 1 <= number <= MOST_NUMBER:
            raise BadParts("the number of a part is from 1 to 100")
        ahead = kind


class Kinds:
    """Kinds by their numbers, from 1."""

    def __init__(self):
        # Of each kind in turn: its parts, none of a raw one, and the raw units it holds.
        self.recipes = []
        self.contents = []

    def many(self):
        """How many kinds there are."""
        return len(self.recipes)

    def check_kind(self, kind):
        if not 1 <= kind <= self.many():
            raise NoKind("no kind has that number")

    def is_raw(self, kind):
        """Whether a kind is raw."""
        self.check_kind(kind)
        return not self.recipes[kind - 1]

    def parts(self, kind):
        """The parts of a kind, pairs (kind, number)."""
        self.check_kind(kind)
        return list(self.recipes[kind - 1])

    def holds(self, kind):
        """The raw units that a unit of a kind holds, pairs (raw kind, number), rising."""
        self.check_kind(kind)
        return list(self.contents[kind - 1])

    def held_by(self, parts):
        """The raw units that good parts hold together."""
        sums = {}
        for kind, number in parts:
            for base, units in self.contents[kind - 1]:
                sums[base] = sums.get(base, 0) + number * units
        return sorted(sums.items())

    def put(self, parts, held):
        """Puts in a kind, and tells its number."""
        if self.many() >= MOST_KINDS:
            raise Full("there are at most 12 kinds")
        self.recipes.append(parts)
        self.contents.append(held)
        return self.many()

    def raw(self):
        """A new raw kind: its number."""
        return self.put([], [(self.many() + 1, 1)])

    def made(self, parts):
        """A new made kind of parts, pairs (kind, number): its number."""
        rows = [(kind, number) for kind, number in parts]
        check_parts(rows, self.many())
        held = self.held_by(rows)
        if any([units > MOST_HELD for base, units in held]):
            raise TooMuch("a unit holds at most 10000 units of a raw kind")
        return self.put(rows, held)

    def twin(self):
        """Another one alike, on its own from then on."""
        other = Kinds()
        # The rows within are never changed, so the twin may have the very same ones.
        other.recipes = list(self.recipes)
        other.contents = list(self.contents)
        return other
