"""Letters, which go between the houses and the weave."""

from limitweave.keeper import Answer

# The name that stands for the weave, as a sender and as a receiver.
WEAVE = ""


class Letter:
    """A letter with its number, and with a body that is a tuple of a word and of what belongs to the word."""

    def __init__(self, number, sender, receiver, view, body):
        self.number = number
        self.sender = sender
        self.receiver = receiver
        self.view = view
        self.body = body

    def parts(self):
        """Return the tuple of the number, the sender, the receiver, the view and the body."""
        return (self.number, self.sender, self.receiver, self.view, self.body)


def told_body(answer):
    """Return the body that tells the answer."""
    return ("told",) + answer.parts()


def told_answer(body):
    """Return the answer that the body tells."""
    _, key, moment, lacking, earliest = body
    return Answer(key, moment, lacking, earliest)
