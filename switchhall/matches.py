"""Through at once: matches of pairs, the stoppers that show that no more can, and crowds."""


def choices_by_inlet(pairs):
    choices = {}
    for inlet, outlet in pairs:
        choices.setdefault(inlet, []).append(outlet)
    return choices


class Joining:
    # Inlets joined to outlets by pairs: no end is joined to two others.

    def __init__(self, pairs):
        self.choices = choices_by_inlet(pairs)
        # Kept from both ends, since the search goes by outlets and the shift by inlets.
        self.outlet_by_inlet = {}
        self.inlet_by_outlet = {}

    def admit(self, inlet):
        found = self.search(inlet)
        if found[0] is None:
            return False
        self.shift(found[0], found[1])
        return True

    def search(self, inlet):
        # Tells a free outlet or None, and by which inlet the search came to each outlet.
        came_by = {}
        waiting = [inlet]
        while waiting:
            here = waiting.pop()
            for outlet in self.choices.get(here, []):
                if outlet in came_by:
                    continue
                came_by[outlet] = here
                if outlet not in self.inlet_by_outlet:
                    return (outlet, came_by)
                # Its inlet might give it up for another one.
                waiting.append(self.inlet_by_outlet[outlet])
        return (None, came_by)

    def shift(self, free, came_by):
        # From the free outlet back: each inlet leaves the one that it had to the inlet that came by it.
        outlet = free
        while outlet is not None:
            inlet = came_by[outlet]
            left = self.outlet_by_inlet.get(inlet)
            self.outlet_by_inlet[inlet] = outlet
            self.inlet_by_outlet[outlet] = inlet
            outlet = left

    def crowd_round(self, inlet):
        # Asked of an inlet that was not admitted: every outlet of these inlets is joined to another one of them.
        came_by = self.search(inlet)[1]
        return [inlet] + [self.inlet_by_outlet[outlet] for outlet in came_by]


def most_joined(pairs):
    joining = Joining(pairs)
    for inlet in sorted(joining.choices):
        joining.admit(inlet)
    return joining


def crowded_inlets(joining):
    crowded = {}
    for inlet in joining.choices:
        if inlet not in joining.outlet_by_inlet:
            for other in joining.crowd_round(inlet):
                crowded[other] = True
    return crowded


def match(pairs):
    joining = most_joined(pairs)
    return sorted([pairs.index(pair) for pair in joining.outlet_by_inlet.items()])


def stoppers(pairs):
    joining = most_joined(pairs)
    crowded = crowded_inlets(joining)
    ends = []
    # One end of each joined pair is enough: all pairs of a crowd go to outlets that the crowd has joined.
    for inlet, outlet in joining.outlet_by_inlet.items():
        ends.append(("out", outlet) if inlet in crowded else ("in", inlet))
    return sorted(ends)


def filled(pairs, inlets):
    joining = Joining(pairs)
    for inlet in inlets:
        if not joining.admit(inlet):
            return ("crowd", sorted(joining.crowd_round(inlet)))
    return ("filled", [joining.outlet_by_inlet[inlet] for inlet in inlets])
