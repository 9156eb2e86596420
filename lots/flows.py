"""The flow of a program: its deeds, times written out, as a list of numbered stops."""

from lots.programs import blocks_of


def flow_of(program):
    block = written_out(program[1])
    stops = []
    add_stops(stops, block, stops_in(block))
    stops.append(("end",))
    return stops


def written_out(block):
    deeds = []
    for deed in block:
        if deed[0] == "times":
            deeds.extend(list(written_out(deed[2])) * deed[1])
        else:
            deeds.append(deed_written_out(deed))
    return tuple(deeds)


def deed_written_out(deed):
    if deed[0] == "if":
        return ("if", deed[1], written_out(deed[2]), written_out(deed[3]))
    if deed[0] == "while":
        return ("while", deed[1], written_out(deed[2]))
    if deed[0] == "hand":
        return ("hand", tuple([written_out(block) for block in deed[1]]))
    return deed


def stops_in(block):
    return sum([deed_stops(deed) for deed in block])


def deed_stops(deed):
    return 1 + sum([stops_in(block) for block in blocks_of(deed)])


def add_stops(stops, block, behind):
    for place, deed in enumerate(block):
        later = len(stops) + deed_stops(deed) if place + 1 < len(block) else behind
        own = len(stops)
        stops.append(stop_of(deed, own, later))
        for inner in blocks_of(deed):
            add_stops(stops, inner, behind_block(deed, own, later))


def behind_block(deed, own, later):
    return own if deed[0] == "while" else later


def stop_of(deed, own, later):
    if deed[0] == "while":
        return ("if", deed[1], begins_of(deed, own, later)[0], later)
    if deed[0] == "if":
        return ("if", deed[1]) + begins_of(deed, own, later)
    if deed[0] == "hand":
        return ("hand", begins_of(deed, own, later))
    return deed + (later,)


def begins_of(deed, own, later):
    # The numbers gone to for each block of the deed; one without stops is passed by at once.
    begins = []
    begin = own + 1
    for block in blocks_of(deed):
        begins.append(begin if len(block) > 0 else behind_block(deed, own, later))
        begin = begin + stops_in(block)
    return tuple(begins)
