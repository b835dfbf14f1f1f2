"""A net of nodes and arcs, through which things go to the end for the most that they can gain.

The worth of a node bounds what a thing there can gain on its way to the end:
along an arc with room no thing gains more than the worth goes down by. A
thing is sent only where it gains just that, so the worths prove that what
was sent gains as much as anything could.
"""

END = 0


class Net:
    """Arcs lie in pairs: beside each is its way back, by which a thing that was sent is sent elsewhere."""

    def __init__(self, worths):
        self.worths = worths
        self.arcs = [[] for _ in worths]
        self.heads = []
        self.rooms = []
        self.gains = []

    def lay(self, tail, head, room, gain):
        """Lay an arc for so many things, each of which gains so much; its way back has room for none yet."""
        for node, other, many, won in ((tail, head, room, gain), (head, tail, 0, -gain)):
            self.arcs[node].append(len(self.heads))
            self.heads.append(other)
            self.rooms.append(many)
            self.gains.append(won)

    def reached(self, begin):
        """Tell, of the nodes to which a thing can go for all the worth that it loses, by which arc it comes there."""
        came = {begin: None}
        nodes = [begin]
        while nodes and END not in came:
            node = nodes.pop()
            for arc in self.arcs[node]:
                head = self.heads[arc]
                gained = self.worths[node] - self.worths[head]
                if self.rooms[arc] > 0 and self.gains[arc] == gained and head not in came:
                    came[head] = arc
                    nodes.append(head)
        return came

    def settle(self, begin):
        """Lower worths until a thing at the node can gain all of its own; tell by which arcs it goes."""
        came = self.reached(begin)
        while END not in came:
            # Every arc with room that leads out of these nodes loses at least one more than it gains.
            for node in came:
                self.worths[node] -= 1
            came = self.reached(begin)
        return came

    def send(self, begin, came):
        """Send a thing from the node to the end, by the arcs that were told."""
        node = END
        while node != begin:
            arc = came[node]
            self.rooms[arc] -= 1
            self.rooms[arc ^ 1] += 1
            node = self.heads[arc ^ 1]

    def sent_from(self, node):
        """Tell the nodes to which things were sent straight from the node."""
        return [self.heads[arc] for arc in self.arcs[node] if arc & 1 == 0 and self.rooms[arc ^ 1] > 0]

    def sent_to(self, node):
        """Tell the nodes from which things were sent straight to the node."""
        return [self.heads[arc] for arc in self.arcs[node] if arc & 1 == 1 and self.rooms[arc] > 0]
