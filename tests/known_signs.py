"""What the signs of a plan say in all of its courses, by the definitions."""

from reckon import Reckoned, all_rides, courses


class Known:
    """All courses of a plan, and what the signs of one ride say in them, by the definitions."""

    def __init__(self, plan):
        self.plan = plan
        self.days = {tuple(course): Reckoned(plan, course) for course in courses(plan)}
        self.rides = all_rides(plan[3])
        self.off = next(iter(self.days.values())).off

    def run(self):
        return [at for at, ride in enumerate(self.rides) if ride not in self.off]

    def leaves(self, course, ride):
        return self.days[tuple(course)].left[self.rides[ride]]

    def moment(self, course, many):
        known = self.days[tuple(course)]
        return max([0] + [known.left[ride] for ride in self.rides[:many] if ride in known.left])

    def window(self, prefix, ride):
        some = [self.leaves(course, ride) for course in self.days if course[:len(prefix)] == tuple(prefix)]
        return (min(some), max(some))

    def said(self, prefix, ride, word):
        if word == "least":
            return self.window(prefix, ride)[0]
        rest = tuple(self.plan[10][len(prefix):])
        course = tuple(prefix) + rest + (0,) * (len(self.rides) - len(prefix) - len(rest))
        return self.leaves(course, ride)

    def news(self, course, ride):
        told = [self.said(course[:many], ride, "least") for many in range(ride + 1)]
        return [(many, told[many - 1], told[many]) for many in range(1, ride + 1) if told[many] > told[many - 1]]

    def misleads(self, course, ride, word, notice):
        if word == "least":
            return any(self.moment(course, many) + notice > old for many, old, _ in self.news(course, ride))
        departure = self.leaves(course, ride)
        return any(
            self.moment(course, many) <= departure < self.said(course[:many], ride, word) for many in range(ride + 1)
        )

    def stairs(self, prefix, ride):
        """The stairs of a prefix, by the definition, from all its pairs."""
        course = next(course for course in self.days if course[:len(prefix)] == tuple(prefix))
        pairs = {(self.moment(course, many), self.said(prefix[:many], ride, "now")) for many in range(len(prefix) + 1)}
        pairs = {pair for pair in pairs if pair[1] > pair[0]}
        return tuple(sorted(
            pair for pair in pairs if not any(other != pair and other[0] <= pair[0] and other[1] >= pair[1] for other in pairs)
        ))
