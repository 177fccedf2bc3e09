"""Graphs: which nodes lie on common rings, and least texts along the ways."""


def components(follows):
    """The nodes of a graph, given with the nodes that follow them, in lists of those on common rings.

    No way leads from a node to one in an earlier list.
    """
    leads = {node: [] for node in follows}
    for node, others in follows.items():
        for other in others:
            leads[other].append(node)
    found = []
    taken = {}
    for node in finished(follows)[::-1]:
        if node not in taken:
            found.append(taken_from(node, leads, taken))
    return found


def finished(follows):
    """The nodes in the order in which a search in depth leaves them."""
    order = []
    met = {}
    for node in follows:
        stack = [(node, False)]
        while stack:
            top, is_left = stack.pop()
            if is_left:
                order.append(top)
            elif top not in met:
                met[top] = True
                stack.append((top, True))
                stack.extend([(other, False) for other in follows[top] if other not in met])
    return order


def taken_from(node, leads, taken):
    """All nodes that a node leads to and that are not taken; they are taken now."""
    found = []
    taken[node] = True
    stack = [node]
    while stack:
        top = stack.pop()
        found.append(top)
        for other in leads[top]:
            if other not in taken:
                taken[other] = True
                stack.append(other)
    return found


def least_texts(ends, leads, put_in_front):
    """The least text, in text order, of the ways from each node to one of the ends.

    leads has for each node the (symbol, node) from which one step leads to it. The symbols are
    put together in the order of the steps, or in the opposite one if not put_in_front.
    """
    texts = {node: "" for node in ends}
    level = list(ends)
    while level:
        fresh = {}
        for node in level:
            for symbol, other in leads.get(node, ()):
                if other in texts:
                    continue
                text = symbol + texts[node] if put_in_front else texts[node] + symbol
                if other not in fresh or text < fresh[other]:
                    fresh[other] = text
        texts.update(fresh)
        level = list(fresh)
    return texts
