"""Signs that were put in beside others, in groups: what a code for the first ones costs for all of them."""

from wordvault.codes import least_of
from wordvault.renumbered import parted_sign


class Groups:
    """One code for tallies that come in turn, and puts by the rule.

    Signs of the first tally are groups. For each sign that is there now: its group, and how
    many times it was parted within its group. sums has the tallies by groups, added.
    """

    def __init__(self, counts):
        self.groups = list(range(len(counts)))
        self.depths = [0] * len(counts)
        self.sums = list(counts)
        self.least = least_of(counts)

    def put(self, counts, rank):
        """A sign is put in; counts are those ahead of it. What was least stays so."""
        sign = parted_sign(counts)
        self.depths[sign] += 1
        self.groups.insert(rank, self.groups[sign])
        self.depths.insert(rank, self.depths[sign])

    def takes(self, counts):
        """Whether one code is least for all tallies so far and for this one, too; if so, it is one of them."""
        by_groups = [0] * len(self.sums)
        inner = 0
        for sign, count in enumerate(counts):
            by_groups[self.groups[sign]] += count
            inner += count * self.depths[sign]
        least = least_of(by_groups)
        if least_of(counts) != least + inner:
            return False
        sums = [one + more for one, more in zip(self.sums, by_groups)]
        if least_of(sums) != self.least + least:
            return False
        self.sums = sums
        self.least += least
        return True
