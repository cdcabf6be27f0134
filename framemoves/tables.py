"""Terms by numbers, for work with many terms that have parts in common.

Within a table equal terms have equal numbers, and a part has a lesser number than what it is a part
of. A node is a tuple (unknown,) or (operation, number, ..) with the numbers of the parts; the number
of a term is the index of its node. Marked unknowns have the first numbers: these are the ones for
which values can be put in afterwards; for each term a mask tells which of them stand in it.
"""

from framemoves.nodes import shared


class Table:
    """Terms by numbers. It grows as terms are added to it."""

    def __init__(self, marked):
        self.nodes = []
        self.sizes = []
        self.masks = []
        self._numbers = {}
        self._marked = len(marked)
        for unknown in marked:
            self.number_of((unknown,))

    def number_of(self, node):
        """The number of a node, which is added if it is new."""
        found = self._numbers.get(node)
        if found is not None:
            return found
        found = len(self.nodes)
        size = 0
        mask = 1 << found if found < self._marked else 0
        if isinstance(node[0], str):
            size = 1
            for part in node[1:]:
                size = size + self.sizes[part]
                mask = mask | self.masks[part]
        self._numbers[node] = found
        self.nodes.append(node)
        self.sizes.append(size)
        self.masks.append(mask)
        return found

    def taken(self, terms):
        """The list of the numbers of terms."""
        nodes, tops = shared(terms)
        leaves = {node[0]: self.number_of(node) for node in nodes if not isinstance(node[0], str)}
        return self.worked((nodes, tops), leaves)

    def worked(self, plan, values):
        """The list of the numbers of the terms of a plan (nodes, tops), the numbers in values put in for unknowns."""
        nodes, tops = plan
        made = []
        for node in nodes:
            if isinstance(node[0], str):
                made.append(self.number_of(node[:1] + tuple([made[part] for part in node[1:]])))
            else:
                made.append(values[node[0]])
        return [made[top] for top in tops]

    def parts_within(self, numbers, marked):
        """The ascending list of the numbers of terms and of all in them, or of those in which marked unknowns are."""
        found = {}
        ahead = list(numbers)
        while ahead:
            number = ahead.pop()
            if number not in found and (not marked or self.masks[number] != 0):
                found[number] = True
                ahead.extend(self.nodes[number][1:])
        return sorted(found)

    def told(self, numbers):
        """The list of the terms with these numbers."""
        made = {}
        for number in self.parts_within(numbers, False):
            node = self.nodes[number]
            if isinstance(node[0], str):
                made[number] = node[:1] + tuple([made[part] for part in node[1:]])
            else:
                made[number] = node[0]
        return [made[number] for number in numbers]

    def moved(self, numbers, values):
        """The list of the numbers of the terms in which each marked unknown is replaced by its value."""
        made = {}
        for number in self.parts_within(numbers, True):
            node = self.nodes[number]
            if number < self._marked:
                made[number] = values[number]
            else:
                made[number] = self.number_of(node[:1] + tuple([made.get(part, part) for part in node[1:]]))
        return [made.get(number, number) for number in numbers]

    def size_of(self, numbers):
        """How many operations are in the terms with these numbers, all together."""
        return sum([self.sizes[number] for number in numbers])

    def fit(self, terms, values):
        """Whether values come of terms, both by numbers, if terms are put in for their unknowns."""
        found = {}
        ahead = list(zip(terms, values))
        while ahead:
            one, other = ahead.pop()
            # The same term comes to the same value everywhere, also if it is no unknown.
            if one in found:
                if found[one] != other:
                    return False
                continue
            found[one] = other
            node, second = self.nodes[one], self.nodes[other]
            if isinstance(node[0], str):
                if node[0] != second[0] or len(node) != len(second):
                    return False
                ahead.extend(list(zip(node[1:], second[1:])))
        return True

    def meeting(self, pairs):
        """The ascending list of the pairs of numbers that meet if the terms of pairs are gone through side by side."""
        found = {}
        ahead = list(pairs)
        while ahead:
            pair = ahead.pop()
            if pair not in found:
                found[pair] = True
                node, second = self.nodes[pair[0]], self.nodes[pair[1]]
                if isinstance(node[0], str) and node[0] == second[0] and len(node) == len(second):
                    ahead.extend(list(zip(node[1:], second[1:])))
        return sorted(found)

    def least(self, terms, values):
        """The least pattern of two lists of numbers, as a list of numbers."""
        made = {}
        # Ascending pairs have parts ahead of wholes, as numbers have.
        for pair in self.meeting(list(zip(terms, values))):
            node, second = self.nodes[pair[0]], self.nodes[pair[1]]
            if isinstance(node[0], str) and node[0] == second[0] and len(node) == len(second):
                parts = [made[part] for part in zip(node[1:], second[1:])]
                made[pair] = self.number_of(node[:1] + tuple(parts))
            else:
                made[pair] = self.number_of((len(made),))
        return [made[pair] for pair in zip(terms, values)]

    def least_of(self, rows):
        """The least pattern of one or more lists of numbers, as a list of numbers."""
        found = list(rows[0])
        for row in rows[1:]:
            if not self.fit(found, row):
                found = self.least(found, row)
        return found
