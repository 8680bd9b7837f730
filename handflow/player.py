"""The player, which does a net by turns."""

from handflow.parts import Yard, part_of


class Play:
    def __init__(self, lines, parts, pace, most):
        self.yard = Yard(lines)
        self.doers = [part_of(row) for row in parts]
        self.pace = pace
        self.spare = most
        self.log = []
        # What each part has made and not given yet.
        self.held = [[] for part in parts]
        self.takings = [0 for part in parts]
        # Only parts for which something has changed are looked at again: those that may give, by turns,
        # and those that may take in this turn. The others stay with the first line that stops them.
        self.givers = {0: []}
        self.takers = list(range(len(parts)))
        self.without_room = [[] for line in lines]
        self.without_thing = [[] for line in lines]

    # Tells whether the play stands still; False where it is cut short.
    def to_its_end(self):
        while len(self.givers) > 0:
            now = min(self.givers)
            for part in sorted(self.givers.pop(now)):
                self.give(now, part)
            takers = sorted(self.takers)
            self.takers = []
            for part in takers:
                if not self.take(now, part):
                    return False
        return True

    def give(self, now, part):
        things = self.held[part]
        for line, thing in things:
            if not self.yard.room(line):
                self.without_room[line].append(part)
                return
        for line, thing in things:
            self.yard.hand(line, thing)
            self.takers.extend(self.without_thing[line])
            self.without_thing[line] = []
        self.log.append((now, part, "gave", things))
        self.takers.append(part)

    # Tells False where the taking would be one too many.
    def take(self, now, part):
        wanted = self.doers[part].wants(self.yard)
        for line in wanted:
            if self.yard.holds(line) == 0:
                self.without_thing[line].append(part)
                return True
        if self.spare == 0:
            return False
        self.spare = self.spare - 1
        things = [self.yard.taken(line) for line in wanted]
        self.log.append((now, part, "took", list(zip(wanted, things))))
        self.held[part] = self.doers[part].made(things)
        self.await_turn(now + 1 + self.rest_of(part), [part])
        self.takings[part] = self.takings[part] + 1
        for line in wanted:
            self.await_turn(now + 1, self.without_room[line])
            self.without_room[line] = []
        return True

    def await_turn(self, turn, parts):
        if len(parts) > 0:
            self.givers.setdefault(turn, []).extend(parts)

    def rest_of(self, part):
        if len(self.pace) == 0:
            return 0
        row = self.pace[part % len(self.pace)]
        return row[self.takings[part] % len(row)] if len(row) > 0 else 0


def play(lines, parts, pace=None, most=5000):
    playing = Play(lines, parts, [] if pace is None else pace, most)
    still = playing.to_its_end()
    return (still, playing.log, playing.yard.stands())
