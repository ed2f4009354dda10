"""Amounts dealt: a part of an amount, and an amount dealt by weights."""

from lotledger.errors import NoWeights


def part_of(amount, part, whole):
    """What so many of a whole have of an amount, rounded down."""
    return amount * part // whole


def dealt(amount, weights):
    """The share of an amount that each weight has, in the weights' order."""
    whole = sum_of_weights(weights)
    shares = []
    weight_till_here = 0
    dealt_till_here = 0
    for weight in weights:
        # Only the shares of the first so many together are rounded, so that nothing is lost on the way.
        weight_till_here = weight_till_here + weight
        dealt_with_it = part_of(amount, weight_till_here, whole)
        shares.append(dealt_with_it - dealt_till_here)
        dealt_till_here = dealt_with_it
    return shares


def sum_of_weights(weights):
    """The sum, above 0, of weights by which something can be dealt."""
    if any([weight < 0 for weight in weights]):
        raise NoWeights("a weight is below 0")
    whole = sum(weights)
    if whole == 0:
        raise NoWeights("no weight is above 0")
    return whole
