"""Tie numbers by codes: one number has those of all places as its digits."""

from listpicks.reckoning import product_of


class TieCodes:
    """The codes for a web: digits below a base, which perhaps begin anew behind the greatest one."""

    def __init__(self, web, base, wraps):
        self.ties = web[1]
        self.base = base
        self.wraps = wraps
        self.weights = [product_of([base] * place) for place in range(web[0])]

    def digit(self, code, place):
        """What a code tells for a place."""
        return code // self.weights[place] % self.base

    def raised(self, code, place):
        """The code with 1 more for a place, None if there is none."""
        if self.digit(code, place) < self.base - 1:
            return code + self.weights[place]
        if self.wraps:
            return code - (self.base - 1) * self.weights[place]
        return None

    def raised_by(self, code, at, most):
        """The codes that come if the tie with an index is taken once, twice and so on, up to most times."""
        u, v = self.ties[at]
        found = []
        left = code
        for _ in range(most):
            left = self.raised(left, u)
            if left is not None:
                left = self.raised(left, v)
            if left is None:
                return found
            found.append(left)
        return found

    def is_divided(self, q, code, places):
        """Whether q divides what a code tells for some places."""
        return all([self.digit(code, place) % q == 0 for place in places])

    def ended(self, at):
        """The places of the tie with an index that no later one has."""
        later = self.ties[at + 1:]
        return [place for place in self.ties[at] if not any([place in tie for tie in later])]
