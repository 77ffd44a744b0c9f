"""Showing pipelines as texts."""


def show_pipeline(pipeline):
    """Return the text of a pipeline."""
    if not pipeline:
        return "-"
    return " | ".join([show_command(command) for command in pipeline])


def show_command(command):
    """Return the text of a command: its name, and its column if it has one."""
    return " ".join([str(part) for part in command])
