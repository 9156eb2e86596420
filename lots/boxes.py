"""Boxes and their states: what boxes hold, what is reckoned of it, put into them and drawn."""

from lots.ratios import fraction


def start_of(boxes):
    return tuple([0 for box in boxes])


def states_of(boxes):
    states = [()]
    for name, size in boxes:
        states = with_each_number(states, size)
    return states


def with_each_number(states, size):
    # The last number turns first, so states that stand in order stay in order.
    longer = []
    for state in states:
        for number in range(size):
            longer.append(state + (number,))
    return longer


def place_of(boxes, name):
    return [box[0] for box in boxes].index(name)


def worth(boxes, state, operand):
    if isinstance(operand, str):
        return state[place_of(boxes, operand)]
    return operand


def reckoned(boxes, state, reckoning):
    one = worth(boxes, state, reckoning[0])
    if len(reckoning) == 1:
        return one
    other = worth(boxes, state, reckoning[2])
    if reckoning[1] == "+":
        return one + other
    if reckoning[1] == "-":
        return one - other
    return one * other


def holds(boxes, state, test):
    one = worth(boxes, state, test[0])
    other = worth(boxes, state, test[2])
    if test[1] == "=":
        return one == other
    if test[1] == "<":
        return one < other
    return one != other


def put_into(boxes, state, name, number):
    place = place_of(boxes, name)
    size = boxes[place][1]
    return state[:place] + (number % size,) + state[place + 1:]


def drawn(boxes, state, name, weights):
    whole = sum(weights)
    ways = []
    for number, weight in enumerate(weights):
        if weight > 0:
            ways.append((fraction(weight, whole), put_into(boxes, state, name, number)))
    return ways
