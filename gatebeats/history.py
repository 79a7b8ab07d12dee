"""Steps that can be taken back, and done again."""

from gatebeats.errors import NoBack


class History:
    """The steps that were done and not taken back, and those that were taken back and can be done again."""

    def __init__(self):
        self.done = []
        self.undone = []

    def keep(self, step):
        """A new step was done: what was taken back ahead of it can't be done again."""
        self.done.append(step)
        self.undone = []

    def take_back(self):
        """The last step, which is now taken back."""
        if len(self.done) == 0:
            raise NoBack("there is no step to take back")
        step = self.done.pop()
        self.undone.append(step)
        return step

    def do_again(self):
        """The step that was taken back last, which is now done again."""
        if len(self.undone) == 0:
            raise NoBack("there is no step to do again")
        step = self.undone.pop()
        self.done.append(step)
        return step

    def sizes(self):
        """A tuple of how many steps can be taken back, and how many done again."""
        return (len(self.done), len(self.undone))

    def copied(self):
        other = History()
        other.done = list(self.done)
        other.undone = list(self.undone)
        return other
