"""Forests: the places of a record as trees, in which each place hangs on the one right ahead of it."""

from farenough.records import in_growing_order, is_first, place_ahead, reads_in


class Forest:
    """The places of a table of steps by their places, with what is right ahead of and right behind each."""

    def __init__(self, table):
        reads = reads_in(table)
        self.roots = []
        self.ahead = {}
        self.behind = {place: [] for place in table}
        # How many places are ahead of each.
        self.depths = {}
        for place in in_growing_order(table):
            if is_first(place):
                self.roots.append(place)
                self.depths[place] = 0
            else:
                ahead = place_ahead(place, reads)
                self.ahead[place] = ahead
                self.behind[ahead].append(place)
                self.depths[place] = self.depths[ahead] + 1
