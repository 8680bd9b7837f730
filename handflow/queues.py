"""A queue: what is laid behind the others is taken out ahead of what comes later."""


class Queue:
    def __init__(self, things):
        # All that was ever laid and how much of it is gone: taking the head off a long list is slow.
        self.laid = list(things)
        self.gone = 0

    def standing(self):
        return len(self.laid) - self.gone

    def head(self):
        return self.laid[self.gone] if self.standing() > 0 else None

    def lay(self, thing):
        self.laid.append(thing)

    def take(self):
        thing = self.laid[self.gone]
        self.gone = self.gone + 1
        return thing

    def rest(self):
        return self.laid[self.gone:]
