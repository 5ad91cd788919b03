"""Walks by deeds through the settings of lamps that are told by places, their settings by bits."""

from oddlamps.bits import sum_at


class Walk:
    """A walk that goes on deed by deed: what is lit and what is ready now, as bits, and its road so far."""

    def __init__(self, masks, turned, lit):
        self.masks = masks
        self.lit = lit
        self.ready = turned ^ sum_at(masks, lit)
        self.road = []

    def go(self, places):
        """Go through lamps, one by one, and switch each that is ready as its turn comes."""
        for place in places:
            if self.ready >> place & 1:
                self.lit ^= 1 << place
                self.ready ^= self.masks[place]
                self.road.append(place)

    def go_there_and_back(self, places):
        """Go through lamps and, but for the last one, back again."""
        self.go(places + places[-2::-1])


def shortest_roads(walk, places):
    """Return for all settings to which deeds of some lamps alone lead a walk, nearest first, a shortest road."""
    found = {walk.lit: []}
    edge = [(walk.lit, walk.ready)]
    while edge:
        beyond = []
        for lit, ready in edge:
            for place in places:
                if ready >> place & 1 and lit ^ (1 << place) not in found:
                    found[lit ^ (1 << place)] = found[lit] + [place]
                    beyond.append((lit ^ (1 << place), ready ^ walk.masks[place]))
        edge = beyond
    return found
