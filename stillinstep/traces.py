"""A run as lines of text."""

from stillinstep.machines import current_part, has_ended
from stillinstep.ticks import awake_turns, behind_turns, finished_turns


def trace_lines(machine, cells, storm):
    """One line for each tick of a storm whose words fit the crew."""
    lines = []
    for tick, word in enumerate(storm):
        turns = awake_turns(machine, cells, word)
        words = [f"tick {tick} {_part_text(machine, cells)}: {word}"]
        for worker, act, at in finished_turns(cells, turns):
            words.append(f"{worker}={act}" if act == "take" else f"{worker}={act}@{at}")
        lines.append(" ".join(words))
        cells = behind_turns(cells, turns)
    return tuple(lines)


def _part_text(machine, cells):
    if has_ended(machine, cells):
        return "ended"
    part, code_index = current_part(cells)
    index, kind = machine.code[code_index]
    return f"part {part} {kind} {index}"
