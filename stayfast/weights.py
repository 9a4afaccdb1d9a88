"""Weights: what they come to, which bars are sound, and which weights balance."""

from stayfast.wholes import added, are_wholes, cleared, lead_of, made_step, times


def pair_row(spots, one, other):
    """Tell what a bar between both, with the weight 1, comes to: a row of two numbers for each joint."""
    row = [0] * (2 * len(spots))
    for at in range(2):
        apart = spots[one][at] - spots[other][at]
        row[2 * one + at] = apart
        row[2 * other + at] = -apart
    return row


def weights_row(frame, spots, weights):
    """Tell what the weights come to: a row of two numbers for each joint."""
    row = [0] * (2 * len(spots))
    for weight, (one, other) in zip(weights, frame[1]):
        row = added(row, times(weight, pair_row(spots, one, other)))
    return row


def in_pairs(row):
    """Tell a row of two numbers for each joint as a tuple of pairs."""
    return tuple(zip(row[::2], row[1::2]))


def are_weights(frame, thing):
    """Tell of anything whether it is weights of the frame."""
    return are_wholes(thing, len(frame[1]))


def balance(frame, spots, thing):
    """Tell of anything whether it is weights that balance."""
    return are_weights(frame, thing) and not any(weights_row(frame, spots, thing))


def sifted(spots, pairs):
    """Take the pairs as bars, one after another.

    Tell the steps made by those that are sound with the ones ahead, these pairs themselves, and for
    each other pair weights of all the pairs, that balance.
    """
    width = 2 * len(spots)
    steps = []
    lot = []
    rest = []
    for at, (one, other) in enumerate(pairs):
        # Behind what it comes to, a row keeps the weights by which it does.
        weights = [1 if place == at else 0 for place in range(len(pairs))]
        row = cleared(pair_row(spots, one, other) + weights, steps)
        lead = lead_of(row[:width])
        if lead is None:
            rest.append(tuple(row[width:]))
        else:
            steps.append(made_step(lead, row))
            lot.append((one, other))
    return (steps, lot, rest)


def sound(frame, spots):
    """Tell the first, as tuples compare, of the greatest lots of sound bars."""
    # A bar that is sound with those taken ahead of it is in a greatest lot with them,
    # so taking each such bar leaves out none that could stand earlier.
    return tuple(sifted(spots, frame[1])[1])


def rank(frame, spots):
    """Tell how many bars the greatest lots of sound bars have."""
    return len(sound(frame, spots))


def balances(frame, spots):
    """Tell, for each bar that is not in the told lot, the weights by which the lot's bars ahead balance it."""
    return sifted(spots, frame[1])[2]


def needed(frame, spots):
    """Tell the bars of which all weights that balance have nought, rising."""
    # All weights that balance are put together from the told ones.
    told = balances(frame, spots)
    return [bar for at, bar in enumerate(frame[1]) if all([weights[at] == 0 for weights in told])]
