"""Pipes from node to node: the most that can flow through all of them, and where nothing more can."""


class Pipes:
    """Pipes that lead from a first node to a last one, each with room for so much.

    Of two nodes no more than one has a pipe to the other one, and each node is a string or a tuple.
    """

    def __init__(self, first, last):
        self.first = first
        self.last = last
        self.rooms = {}
        self.flows = {}

    def lay(self, one, other, room):
        """Lay a pipe from one node to another one."""
        self.rooms[(one, other)] = room
        self.flows[(one, other)] = 0

    def fill(self):
        """Let as much flow as can, and return how much that is."""
        many = 0
        ahead = self.reached()
        while self.last in ahead:
            self._lead(ahead)
            many += 1
            ahead = self.reached()
        return many

    def reached(self):
        """Return a dict of the nodes that more could flow to, each with the node ahead of it."""
        ahead = {self.first: None}
        waiting = [self.first]
        while len(waiting) > 0:
            node = waiting.pop()
            for other in self._steps(node):
                if other not in ahead:
                    ahead[other] = node
                    waiting.append(other)
        return ahead

    def _steps(self, node):
        """Return the list of the nodes that more could flow to straight from a node."""
        forth = [other for (one, other), room in self.rooms.items() if one == node and self.flows[(one, other)] < room]
        # What flows to the node from another one can stay there and take another pipe instead.
        back = [one for (one, other), flow in self.flows.items() if other == node and flow > 0]
        return forth + back

    def _lead(self, ahead):
        """Let one more flow to the last node, along the nodes that are told."""
        node = self.last
        while ahead[node] is not None:
            before = ahead[node]
            if (before, node) in self.rooms:
                self.flows[(before, node)] += 1
            else:
                self.flows[(node, before)] -= 1
            node = before

    def take(self):
        """Take off one of what flows from the first node to the last one, and return the list of its nodes."""
        nodes = [self.first]
        while nodes[-1] != self.last:
            further = [pair for pair, flow in self.flows.items() if pair[0] == nodes[-1] and flow > 0]
            self.flows[further[0]] -= 1
            nodes.append(further[0][1])
        return nodes
