"""The answers of a keeper."""


class Answer:
    """The answer to a request. It is let in exactly if no limit is lacking."""

    def __init__(self, key, moment, lacking, earliest):
        self.key = key
        self.moment = moment
        self.lacking = lacking
        self.earliest = earliest
        self.is_let = len(lacking) == 0

    def parts(self):
        """Return the tuple of the key, the moment, the lacking and the earliest."""
        return (self.key, self.moment, self.lacking, self.earliest)
