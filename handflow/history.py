"""The history of a line: all things that ever stood there."""


def history(lines, log, line):
    things = list(lines[line][1])
    for turn, part, word, handed in log:
        if word == "gave":
            things.extend([thing for place, thing in handed if place == line])
    return things
