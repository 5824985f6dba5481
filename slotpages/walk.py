"""The walk: each row once, whatever is done with the shelf meanwhile."""


class Walk:
    """A way over the rows of a shelf, by their places, which no deed changes."""

    def __init__(self, shelf):
        self._shelf = shelf
        # Ahead of all places that there are.
        self._place = (-1, -1)
        self._over = False

    def step(self):
        """The (name, values) of the first row behind that told last; None if there is none, and from then on."""
        if self._over:
            return None
        for name in self._shelf.names():
            if name[:2] > self._place:
                values = self._shelf.get(name)
                self._place = name[:2]
                return name, values
        self._over = True
        return None
