"""Right rows of moves: how a road of any length is folded in few of them.

In each round the widest mating at the top leads off all that lies upon its other stretch, and then folds.
What it leads is moved on by its step at least, and two matings of small steps that share many places are
merged; so a few rounds for each mating halve one of the stretches, however far the road goes.
"""

from farmates.fronts import end_of, is_leader, merged, step_of


def fold_down(front):
    """Fold the front to its end; the row of moves that were made."""
    folder = Folder(front)
    folder.tidy(sorted(front.standing))
    while front.top() > 0:
        folder.go_on()
    return folder.row


class Folder:
    """Chooses moves for a front, makes them, and keeps their row."""

    def __init__(self, front):
        self.front = front
        self.row = []

    def make(self, move):
        """Make the move upon the front."""
        self.front.make(move)
        self.row.append(move)

    def go_on(self):
        """Take off the bare top, or lead off what lies upon the widest mating there, or fold by this one."""
        reach = self.front.reach(None)
        if reach < self.front.top():
            self.make(("bare", reach))
            return
        i = self.widest()
        low = self.front.standing[i][1]
        upon = [j for j in sorted(self.front.standing) if j != i and self.front.standing[j][1] >= low]
        if not upon:
            self.make(("fold", i, max(low, self.front.reach(i))))
            return
        for j in upon:
            self.lead_off(j, i, low)
        self.tidy(upon)

    def widest(self):
        """The mating that ends at the top and whose other stretch begins first."""
        standing = self.front.standing
        ending = [i for i in sorted(standing) if end_of(standing[i]) == self.front.top()]
        return min(ending, key=lambda i: standing[i][1])

    def lead_off(self, j, i, low):
        """Lead those stretches of j back by i that begin in its other one, which begins at low."""
        # One that is led comes to begin below low, so side 1 is then the one that may still lie there.
        while self.front.standing[j][1] >= low:
            self.make(("lead", j, 1, i))

    def tidy(self, numbers):
        """Let go, halve and merge what can be of the matings that stand otherwise than ahead."""
        waiting = list(numbers)
        while waiting:
            i = waiting.pop()
            move = self.tidy_move(i)
            if move is not None:
                self.make(move)
                waiting.append(i)

    def tidy_move(self, i):
        """A move that lets mating i or another one go, or halves it, or None."""
        mating = self.front.standing.get(i)
        if mating is None:
            return None
        if mating[3] == 1:
            return None if is_leader(mating) else ("halve", i)
        if step_of(mating) == 0:
            return ("idle", i)
        for j in sorted(self.front.standing):
            if j != i and merged(mating, self.front.standing[j]) is not None:
                return ("merge", i, j)
        return None
