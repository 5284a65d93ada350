"""The cheapest word of a pattern, where signs have prices."""


# Of several that are as cheap the first one, so that the same is told each time.
def cheaper(found):
    return min([each for each in found if each is not None], key=lambda each: each[0], default=None)


def all_behind_one_another(found):
    if None in found:
        return None
    signs = []
    for each in found:
        signs.extend(each[1])
    return (sum([each[0] for each in found]), signs)


# A tuple of the price and the word; None where each word that fits has a sign without a price.
def cheapest(pattern, prices):
    kind = pattern[0]
    if kind == "one":
        return (prices[pattern[1]], [pattern[1]]) if pattern[1] in prices else None
    if kind == "row":
        return all_behind_one_another([cheapest(inner, prices) for inner in pattern[1]])
    if kind == "any":
        return cheaper([cheapest(inner, prices) for inner in pattern[1]])
    if kind == "some":
        return cheapest(pattern[1], prices)
    return (0, [])
