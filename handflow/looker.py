"""The looker: can all deeds be done, or do some wait for one another in a ring?"""

from handflow.waits import waits_of


class Looking:
    def __init__(self, waits):
        self.waits = waits
        self.order = []
        self.finished = [False for deed in waits]
        # How many of its waits each deed is over with, as they are told.
        self.over = [0 for deed in waits]
        # Of each deed, those that look at it and can't go on.
        self.stuck = [[] for deed in waits]

    def look_at(self, deed):
        ready = [deed]
        while len(ready) > 0:
            looking = ready.pop()
            wait = self.stopped_by(looking)
            if wait is None:
                self.order.append(looking)
                self.finished[looking] = True
                ready.extend(self.stuck[looking])
            else:
                self.stuck[wait[0]].append(looking)

    def stopped_by(self, deed):
        waits = self.waits[deed]
        while self.over[deed] < len(waits):
            wait = waits[self.over[deed]]
            if not self.finished[wait[0]]:
                return wait
            self.over[deed] = self.over[deed] + 1
        return None

    # Room is told last of a deed's waits: one that is stopped by it is over with all others,
    # and all other waits are for deeds ahead, so that no ring is without room.
    def ring(self):
        deed = self.finished.index(False)
        places = {}
        path = []
        while deed not in places:
            places[deed] = len(path)
            wait = self.stopped_by(deed)
            path.append((deed, wait[1], wait[2]))
            deed = wait[0]
        return path[places[deed]:]


def looked(deeds, stores):
    return looked_through(waits_of(deeds, stores))


def looked_through(waits):
    looking = Looking(waits)
    for deed in range(len(waits)):
        looking.look_at(deed)
    if len(looking.order) == len(waits):
        return ("by", looking.order)
    return ("ring", looking.order, looking.ring())
