"""Texts made shorter and shorter, alike for all, on their rules.

In turn, runs of one letter are made one letter, and pairs of two letters by a
splitting of the letters. As each stage is the same for all texts, whatever
their rules, they part where the first unlike letters of a stage do, as far down
as these are alike.

A node has refs, nodes that stand in it, and gaps, tuples of letters ahead of,
between, and behind these. A core is a node that stands for X (w X) .. (w X): its base X,
its gap w and its times. Ahead of each stage a node gives away what may become one with
letters outside of it; these letters stand in the gaps around it then.

A core whose base is letters alone gives away a copy with each stage or so until its copies
are single letters, and it has as many copies as a count tells. So all neighbours must become
one soon: also those over the ends of nodes are told to the splitting, and none waits for long.
"""


class Letters:
    """All letters: their sizes, the stage that made them, and their parts, pairs (letter, count)."""

    def __init__(self, signs):
        self.sizes = [1] * signs
        self.stages = [0] * signs
        self.parts = [()] * signs
        self.stage = 0
        self.numbers = {}
        # What a pair of neighbours weighs that so many splittings left as it is.
        self.weights = [16]

    def new_stage(self):
        """From now on letters are made by the next stage."""
        self.stage += 1
        self.numbers = {}

    def made_of(self, parts):
        """The letter that this stage makes of these parts."""
        number = self.numbers.get(parts)
        if number is None:
            number = len(self.sizes)
            self.numbers[parts] = number
            self.sizes.append(sum([self.sizes[letter] * count for letter, count in parts]))
            self.stages.append(self.stage)
            self.parts.append(parts)
        return number

    def weighed(self, pairs):
        """A dict from pairs of neighbours to their weights, for the splitting of this stage.

        A quarter of all the weight is made one by each splitting, and a pair that is left weighs a quarter
        more each time. So the weight of all stays below some 16 times that of what is new, and a pair is left
        some log(16 * pairs) times at most, whatever stands beside it.
        """
        weights = {}
        for one, other in pairs:
            # Two letters side by side are so since the later one was made; every other stage is a splitting.
            waited = (self.stage - 1 - max(self.stages[one], self.stages[other])) // 2
            while waited >= len(self.weights):
                self.weights.append(self.weights[-1] * 5 // 4)
            weights[(one, other)] = self.weights[waited]
        return weights


class RunCutter:
    """Makes runs one letter. In its gaps a pair (letter, count) is a run that was given away."""

    def __init__(self, letters):
        self.letters = letters
        self.told_amid = {}
        self.told_first = {}
        self.told_last = {}

    def runs_of(self, gap):
        """The longest runs, pairs (letter, count)."""
        runs = []
        for item in gap:
            letter, count = (item, 1) if isinstance(item, int) else item
            if runs and runs[-1][0] == letter:
                runs[-1] = (letter, runs[-1][1] + count)
            else:
                runs.append((letter, count))
        return runs

    def letters_of(self, runs):
        """A tuple with one letter for each run."""
        return tuple([run[0] if run[1] == 1 else self.letters.made_of((run,)) for run in runs])

    def amid(self, gap):
        """The new letters of a gap."""
        if gap not in self.told_amid:
            self.told_amid[gap] = self.letters_of(self.runs_of(gap))
        return self.told_amid[gap]

    def first(self, gap):
        """What is given away at the beginning of a gap, and the new letters of the rest."""
        if gap not in self.told_first:
            runs = self.runs_of(gap)
            self.told_first[gap] = ((runs[0],), self.letters_of(runs[1:]))
        return self.told_first[gap]

    def last(self, gap):
        """The new letters of a gap, and what is given away at its end."""
        if gap not in self.told_last:
            runs = self.runs_of(gap)
            self.told_last[gap] = (self.letters_of(runs[:-1]), (runs[-1],))
        return self.told_last[gap]

    def whole(self, gap):
        """What is given away at the beginning, the new letters, and what is given away at the end."""
        runs = self.runs_of(gap)
        if len(runs) == 1:
            return (runs[0],), (), ()
        return (runs[0],), self.letters_of(runs[1:-1]), (runs[-1],)

    def core(self, ahead, gap, behind, times):
        """A core whose base was all given away: what it gives away, the new base, the new gap, the new times.

        It is ahead behind (gap ahead behind) .. : if the base was one run, runs go over its copies.
        """
        if behind:
            return ahead, self.amid(behind + gap + ahead), (), times - 1, behind
        letter, count = ahead[0]
        runs = self.runs_of(gap + ahead)
        if len(runs) == 1:
            return ((letter, count + times * runs[0][1]),), (), (), 0, ()
        early = runs[0][1] if runs[0][0] == letter else 0
        late = runs[-1][1]
        base = self.letters_of(runs[1:-1] if early else runs[:-1])
        between = self.letters_of([(letter, early + late)])
        return ((letter, count + early),), base, between, times - 1, ((letter, late),)


class PairCutter:
    """Makes pairs of a letter of the one side and a letter of the other side behind it one letter."""

    def __init__(self, letters, left, right):
        self.letters = letters
        self.left = left
        self.right = right
        self.told_amid = {}
        self.told_first = {}
        self.told_last = {}

    def amid(self, gap):
        """The new letters of a gap."""
        if gap not in self.told_amid:
            self.told_amid[gap] = self.paired(gap)
        return self.told_amid[gap]

    def paired(self, gap):
        """The letters with each pair as one."""
        told = []
        ahead = None
        for letter in gap:
            if ahead in self.left and letter in self.right:
                told[-1] = self.letters.made_of(((ahead, 1), (letter, 1)))
                ahead = None
            else:
                told.append(letter)
                ahead = letter
        return tuple(told)

    def first(self, gap):
        """What is given away at the beginning of a gap, and the new letters of the rest."""
        if gap not in self.told_first:
            given = gap[:1] if gap and gap[0] in self.right else ()
            self.told_first[gap] = (given, self.amid(gap[len(given):]))
        return self.told_first[gap]

    def last(self, gap):
        """The new letters of a gap, and what is given away at its end."""
        if gap not in self.told_last:
            given = gap[-1:] if gap and gap[-1] in self.left else ()
            self.told_last[gap] = (self.amid(gap[:len(gap) - len(given)]), given)
        return self.told_last[gap]

    def whole(self, gap):
        """What is given away at the beginning, the new letters, and what is given away at the end."""
        ahead = gap[:1] if gap[0] in self.right else ()
        rest = gap[len(ahead):]
        told, behind = self.last(rest)
        return ahead, told, behind

    def core(self, ahead, gap, behind, times):
        """A core whose base was all given away: what it gives away, the new base, the new gap, the new times."""
        return ahead, self.amid(behind + gap + ahead), (), times - 1, behind


class Nodes:
    """The nodes of all texts, each behind those in it; roots are nodes that give nothing away."""

    def __init__(self):
        self.order = []
        self.roots = []
        self.refs = []
        self.gaps = []
        self.bases = []
        self.times = []
        # What each node gave away last: triples (letters ahead, letters behind, whether this was all).
        self.given = {}

    def added(self, refs, gaps):
        """A new node; whoever asks for it says where it stands in the order."""
        self.refs.append(refs)
        self.gaps.append(gaps)
        self.bases.append(None)
        self.times.append(0)
        return len(self.refs) - 1

    def added_core(self, base, times):
        """A new core without a gap."""
        node = self.added([], [()])
        self.bases[node] = base
        self.times[node] = times
        return node

    def squeeze(self, cutter):
        """One stage."""
        self.given = {}
        order = []
        for node in self.order:
            if self.bases[node] is None:
                self.squeeze_row(cutter, node)
            else:
                base = self.squeeze_core(cutter, node)
                if base is not None:
                    order.append(base)
            if not self.given[node][2]:
                order.append(node)
        self.order = order
        for root in self.roots:
            gaps = self.gathered(root)
            self.gaps[root] = [cutter.amid(gap) for gap in gaps]

    def gathered(self, node):
        """The gaps of a node with what the nodes in it gave away; those that gave all away fall out."""
        gaps, refs = self.gaps[node], self.refs[node]
        given = self.given
        told = []
        gap = gaps[0]
        at = 0
        all_stay = True
        for ref in refs:
            ahead, behind, is_gone = given[ref]
            at += 1
            if is_gone:
                gap = gap + ahead + behind + gaps[at]
                all_stay = False
            else:
                told.append(gap + ahead)
                gap = behind + gaps[at]
        told.append(gap)
        if not all_stay:
            self.refs[node] = [ref for ref in refs if not given[ref][2]]
        return told

    def squeeze_row(self, cutter, node):
        """One stage of a node that is no core."""
        gaps = self.gathered(node)
        if len(gaps) == 1:
            ahead, letters, behind = cutter.whole(gaps[0])
            self.gaps[node] = [letters]
            self.given[node] = (ahead, behind, not letters)
            return
        # The rows are many, and their gaps are few: what was told of a gap is looked up first.
        ahead, first = cutter.told_first.get(gaps[0]) or cutter.first(gaps[0])
        last, behind = cutter.told_last.get(gaps[-1]) or cutter.last(gaps[-1])
        for at in range(1, len(gaps) - 1):
            gaps[at] = cutter.told_amid.get(gaps[at]) or cutter.amid(gaps[at])
        gaps[0], gaps[-1] = first, last
        self.gaps[node] = gaps
        self.given[node] = (ahead, behind, False)

    def squeeze_core(self, cutter, node):
        """One stage of a core; if it gets a new base, this is returned, otherwise None."""
        gap = self.gaps[node][0]
        ahead, behind, is_gone = self.given[self.bases[node]]
        if not is_gone:
            self.given[node] = self.given[self.bases[node]]
            gap = behind + gap + ahead
            self.gaps[node] = [cutter.told_amid.get(gap) or cutter.amid(gap)]
            return None
        ahead, letters, between, times, behind = cutter.core(ahead, gap, behind, self.times[node])
        self.given[node] = (ahead, behind, not letters)
        self.times[node] = times
        if times == 0:
            self.bases[node] = None
            self.gaps[node] = [letters]
            return None
        self.bases[node] = self.added([], [letters])
        self.gaps[node] = [between]
        return self.bases[node]

    def neighbours(self):
        """All pairs of letters that stand side by side in what the nodes tell, each once."""
        gaps = self.wide_gaps()
        pairs = {}
        for gap in gaps:
            for at in range(1, len(gap)):
                pairs[gap[at - 1:at + 1]] = True
        return list(pairs)

    def wide_gaps(self):
        """All gaps, each with the last letter of what stands ahead of it and the first one of what stands behind it."""
        wide = {}
        firsts, lasts = {}, {}
        for node in self.order + self.roots:
            gaps, refs, base = self.gaps[node], self.refs[node], self.bases[node]
            if base is not None:
                wide[lasts[base] + gaps[0] + firsts[base]] = True
                firsts[node], lasts[node] = firsts[base], lasts[base]
                continue
            ahead = ()
            for at, ref in enumerate(refs):
                wide[ahead + gaps[at] + firsts[ref]] = True
                ahead = lasts[ref]
            wide[ahead + gaps[-1]] = True
            firsts[node] = gaps[0][:1] or firsts[refs[0]]
            lasts[node] = gaps[-1][-1:] or lasts[refs[-1]]
        return list(wide)


def sides_of(weighed):
    """A splitting of the letters in two sides: of the weight of all pairs a quarter at least goes from one to other.

    Each letter comes to the side on which it has less weight beside it; so half of the weight at least
    goes over, forth or back.
    """
    weights = {}
    for (one, other), weight in weighed.items():
        of_one, of_other = weights.setdefault(one, {}), weights.setdefault(other, {})
        of_one[other] = of_one.get(other, 0) + weight
        of_other[one] = of_other.get(one, 0) + weight
    left, right = {}, {}
    for letter, beside in weights.items():
        lefts = sum([weight for other, weight in beside.items() if other in left])
        rights = sum([weight for other, weight in beside.items() if other in right])
        side = right if lefts > rights else left
        side[letter] = True
    forth = sum([weight for (one, other), weight in weighed.items() if one in left and other in right])
    back = sum([weight for (one, other), weight in weighed.items() if one in right and other in left])
    return (left, right) if forth >= back else (right, left)
