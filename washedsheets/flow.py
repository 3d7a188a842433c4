"""Cheapest ways through a network of nodes and arcs, each arc with room for so many and a cost for each."""


class Network:
    def __init__(self, nodes):
        self.nodes = nodes
        self.tails = []
        self.heads = []
        self.rooms = []
        self.costs = []

    # Each arc is followed by its way back, whose room is what goes through the arc now: so what has been
    # sent can be taken back, and arc ^ 1 is the other one of the two.
    def add_arc(self, tail, head, room, cost):
        arc = len(self.tails)
        self.tails.extend([tail, head])
        self.heads.extend([head, tail])
        self.rooms.extend([room, 0])
        self.costs.extend([cost, -cost])
        return arc

    def flow_through(self, arc):
        return self.rooms[arc ^ 1]


# For each node the least cost from the source, and the last arc on the way there; None where no way leads.
# It comes to an end because no round of arcs with room costs less than 0: send keeps it so.
def shortest_ways(network, source):
    lengths = [None] * network.nodes
    arrivals = [None] * network.nodes
    lengths[source] = 0
    again = True
    while again:
        again = False
        for arc, room in enumerate(network.rooms):
            before = lengths[network.tails[arc]]
            if room == 0 or before is None:
                continue
            head = network.heads[arc]
            length = before + network.costs[arc]
            if lengths[head] is None or length < lengths[head]:
                lengths[head] = length
                arrivals[head] = arc
                again = True
    return (lengths, arrivals)


def arcs_of_way(network, arrivals, source, target):
    arcs = []
    node = target
    while node != source:
        arcs.append(arrivals[node])
        node = network.tails[arrivals[node]]
    return arcs


def push(network, arcs, amount):
    for arc in arcs:
        network.rooms[arc] -= amount
        network.rooms[arc ^ 1] += amount


# By shortest ways alone: if no round costs less than 0 before, none does afterwards, and all that has been
# sent so far, to whichever targets, is sent as cheaply as it can be.
def send(network, source, target, amount):
    left = amount
    while left > 0:
        arrivals = shortest_ways(network, source)[1]
        arcs = arcs_of_way(network, arrivals, source, target)
        pushed = min(left, min([network.rooms[arc] for arc in arcs]))
        push(network, arcs, pushed)
        left -= pushed
