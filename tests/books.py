"""Lots, outs and terms for the tests, and dealings that are looked for step by step."""

import copy


class Flow:
    """Units given to outs one path after another, also over again from out to out."""

    def __init__(self, lots, outs, term):
        self.spare = [count for day, count in outs]
        self.given = [[0] * len(outs) for lot in lots]
        self.reached = [
            [at for at, (out_day, count) in enumerate(outs) if out_day - term <= day <= out_day]
            for day, lot_count, duty in lots
        ]

    def push(self, lot, units):
        """Gives up to so many units of a lot to outs; tells how many could be given."""
        pushed = 0
        while pushed < units:
            path = self.path(lot)
            if path is None:
                break
            step = min([units - pushed, self.spare[path[-1][1]]] + [
                self.given[giver][out] for (ahead, out), (giver, to) in zip(path, path[1:])
            ])
            for place, (giver, out) in enumerate(path):
                self.given[giver][out] += step
                if place:
                    self.given[giver][path[place - 1][1]] -= step
            self.spare[path[-1][1]] -= step
            pushed += step
        return pushed

    def path(self, lot):
        """Steps (lot, out): each lot gives to its out, and takes back from the one ahead."""
        ways = [[(lot, out)] for out in self.reached[lot]]
        seen = set(self.reached[lot])
        for way in ways:
            out = way[-1][1]
            if self.spare[out]:
                return way
            for giver, row in enumerate(self.given):
                if row[out]:
                    for other in self.reached[giver]:
                        if other not in seen:
                            seen.add(other)
                            ways.append(way + [(giver, other)])
        return None


def flows(lots, outs, term, taken):
    """Whether taken counts can be dealt out, by looking for a dealing."""
    flow = Flow(lots, outs, term)
    return all(flow.push(at, units) == units for at, units in enumerate(taken))


def fits_by_unit(lots, outs, term, taken):
    """The same of few units, each one by itself matched with a unit that goes out."""
    ones = [lots[at][0] for at, units in enumerate(taken) for step in range(units)]
    slots = [day for day, count in outs for step in range(count)]
    holder = {}

    def place(one, seen):
        for slot, day in enumerate(slots):
            if day - term <= ones[one] <= day and slot not in seen:
                seen.add(slot)
                if slot not in holder or place(holder[slot], seen):
                    holder[slot] = one
                    return True
        return False

    return all(place(one, set()) for one in range(len(ones)))


def flow_best(lots, outs, term):
    """The best counts, each lot of [7] in turn pushed as far as it goes."""
    flow = Flow(lots, outs, term)
    counts = [0] * len(lots)
    for at in sorted(range(len(lots)), key=lambda at: (-lots[at][2], lots[at][0], at)):
        counts[at] = flow.push(at, lots[at][1])
    return counts


def units_above(lots, counts, duty):
    return sum(units for lot, units in zip(lots, counts) if lot[2] >= duty)


def refund_of(lots, counts):
    total = 0
    for at, (day, count, duty) in enumerate(lots):
        total += counts[at] * duty
    return total


def are_stretches(stretches):
    """Whether all are stretches of days, rising, none beginning ahead of an end."""
    ends = [end for stretch in stretches for end in stretch]
    if not all(1 <= end <= 999 for end in ends):
        return False
    if not all(first <= last for first, last in stretches):
        return False
    return all(one[1] < other[0] for one, other in zip(stretches, stretches[1:]))


def sum_of_paper(lots, outs, term, duty, stretches):
    """What the units of a good paper are, lot by lot and out by out."""
    total = 0
    for day, count, paid in lots:
        if paid >= duty and not any(first <= day <= last for first, last in stretches):
            total += count
    for first, last in stretches:
        for day, count in outs:
            total += count if first <= day <= last + term else 0
    return total


def tiny(chance, most=5, units=4):
    """Few lots and outs of few units, of days that lie near one another."""
    span = chance.choice([3, 6, 10])
    lots = [
        (chance.randint(1, span), chance.randint(1, units), chance.randint(1, chance.choice([1, 3, 9])))
        for step in range(chance.randint(0, most))
    ]
    outs = [
        (chance.randint(1, span + 2), chance.randint(1, units))
        for step in range(chance.randint(0, most))
    ]
    return lots, outs, chance.randint(0, 4)


def wide(chance, most=30):
    """Up to so many lots and outs, of days of any span, often many of one day or duty."""
    span = chance.choice([1, 2, 5, 30, 300, 998])
    first = chance.choice([1, 999 - span, chance.randint(1, 999 - span)])
    units = chance.choice([1, 3, 20, 1000000, 10000000000])
    duties = chance.choice([[5], [1, 1000000], [1, 2, 3, 4], range(1, 40), range(1, 1000001)])
    days = [chance.randint(first, first + span) for step in range(chance.choice([3, 60]))]
    lots = [
        (chance.choice(days), chance.randint(1, units), chance.choice(duties))
        for step in range(chance.choice([most, chance.randint(0, most)]))
    ]
    outs = [
        (chance.choice(days), chance.randint(1, units))
        for step in range(chance.choice([most, chance.randint(0, most)]))
    ]
    return lots, outs, chance.choice([0, 1, 2, 10, 100, 399, 400, chance.randint(0, 400)])


def some_counts(chance, lots, counts):
    """Counts by the best ones: these, less, one unit more of one lot, or any."""
    way = chance.choice(["best", "less", "more", "any", "some"])
    told = list(counts)
    if way == "less":
        told = [max(0, units - chance.choice([0, 1, units // 2])) for units in counts]
    if way == "more":
        free = [at for at, lot in enumerate(lots) if counts[at] < lot[1]]
        if free:
            told[chance.choice(free)] += 1
    if way == "any":
        told = [chance.choice([0, lot[1], chance.randint(0, lot[1])]) for lot in lots]
    if way == "some":
        told = [units if chance.random() < 0.5 else 0 for units in counts]
    return told


def untouched(case, call, *given):
    """What a call tells twice, the things handed in having stayed as they were."""
    kept = copy.deepcopy(given)
    told = call(*given)
    case.assertEqual(given, kept)
    case.assertEqual(call(*given), told)
    case.assertEqual(given, kept)
    return told
