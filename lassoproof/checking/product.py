"""Product places of a graph and its conditions of fairness (points 7.4 and 7.5).

A place is here a pair of a node and the number of its promises; outlooks has the Outlook of each
node.
"""


def reached_places(after, starts, outlooks):
    """The places that can be reached, the indexes of those that start, and the edges."""
    places = [(node, number) for node in sorted(set(starts)) for number in outlooks[node].starting]
    first = list(range(len(places)))
    index_of = {place: index for index, place in enumerate(places)}
    edges = []
    while len(edges) < len(places):
        node, number = places[len(edges)]
        found = []
        for ahead in after[node]:
            for chosen in outlooks[ahead].following(number):
                place = (ahead, chosen)
                if place not in index_of:
                    index_of[place] = len(places)
                    places.append(place)
                found.append(index_of[place])
        edges.append(sorted(found))
    return places, first, edges


def product_justice(places, outlooks, justice, count):
    """The lists of justice of the product; the last ones are those of count settling rows."""
    asked = [places_at(places, nodes) for nodes in justice]
    for row in range(count):
        asked.append([
            index for index, (node, number) in enumerate(places)
            if (outlooks[node].settled[row] >> number) & 1
        ])
    return asked


def product_compassion(places, compassion):
    """The pairs of compassion of the product."""
    return [(places_at(places, first), places_at(places, second)) for first, second in compassion]


def places_at(places, nodes):
    """The indexes of the places at some nodes."""
    wanted = {node: True for node in nodes}
    return [index for index, (node, _) in enumerate(places) if node in wanted]
