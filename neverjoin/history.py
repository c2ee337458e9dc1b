"""What is led step by step, and can go back."""

from neverjoin.errors import NothingDone


class History:
    """The states of a thing, from the first one, at which it began, to that at which it is."""

    def __init__(self, first):
        self.states = [first]

    def last(self):
        """The state at which the thing is."""
        return self.states[-1]

    def go(self, state):
        """Go on to a state."""
        self.states.append(state)

    def go_back(self):
        """Go back to the state ahead."""
        if len(self.states) == 1:
            raise NothingDone()
        self.states.pop()

    def steps(self):
        """How many steps back there are."""
        return len(self.states) - 1

    def branch(self):
        """A history that goes on apart from here, and can go back likewise."""
        other = History(self.states[0])
        other.states = list(self.states)
        return other
