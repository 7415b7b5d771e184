"""Texts of scripts."""


def show_command(command):
    """Return the text of a command."""
    first, last = command
    if first == last:
        return str(first)
    return f"{first}-{last}"


def show_repeated(command, many):
    """Return the text of a command that is run so many times, one after the other."""
    if many == 1:
        return show_command(command)
    return f"{show_command(command)}*{many}"


def show_script(commands):
    """Return the text of a script."""
    if not commands:
        return "none"
    # Pairs of a command and how often it stands there in a row.
    groups = []
    for command in commands:
        if groups and groups[-1][0] == command:
            groups[-1][1] += 1
        else:
            groups.append([command, 1])
    return " ".join([show_repeated(command, many) for command, many in groups])
