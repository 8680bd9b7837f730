"""Stores made longer until they are let by."""

from handflow.looker import looked_through
from handflow.waits import waits_behind, waits_for_cards


class Mender:
    def __init__(self, deeds, stores):
        self.deeds = deeds
        # No length changes these, and to look once at each deed that is waited for is enough.
        self.by_cards = [thinned(row) for row in waits_for_cards(deeds)]
        peaks = peaks_of(deeds)
        self.stores = [(store, max(length, peaks.get(store, 0))) for store, length in stores]

    def look_with(self, place, length):
        stores = list(self.stores)
        stores[place] = (stores[place][0], length)
        return looked_through(waits_behind(self.by_cards, self.deeds, stores))

    def shorten(self, place, least):
        enough = self.stores[place][1]
        # A longer store never hinders, so what is too short and what is enough close in on one another.
        while least < enough:
            middle = (least + enough) // 2
            if self.look_with(place, middle)[0] == "by":
                enough = middle
            else:
                least = middle + 1
        self.stores[place] = (self.stores[place][0], enough)

    def paper(self, place):
        store = self.stores[place]
        return (store[0], self.look_with(place, store[1] - 1)[2])


def mended(deeds, stores):
    mender = Mender(deeds, stores)
    for place, store in enumerate(stores):
        mender.shorten(place, store[1])
    longer = mender.stores
    # Only now, since each ring is one of all stores at their last lengths.
    papers = [mender.paper(place) for place, store in enumerate(stores) if longer[place][1] > store[1]]
    return (longer, papers)


def thinned(waits):
    kept = {}
    for wait in waits:
        kept.setdefault(wait[0], wait)
    return list(kept.values())


# The most that ever stands in each store where the deeds are done as they are told:
# with so much room that very order is let by.
def peaks_of(deeds):
    standing = {}
    peaks = {}
    for deed in deeds:
        into = deed[3]
        outof = deed[4]
        if into is not None:
            standing[into] = standing.get(into, 0) + 1
            peaks[into] = max(peaks.get(into, 0), standing[into])
        if outof is not None:
            standing[outof] = standing[outof] - 1
    return peaks
