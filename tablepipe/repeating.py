"""The forms of pipelines that repeat a pipeline."""

from tablepipe.checks import check_pipeline, check_width
from tablepipe.errors import InvalidNumber
from tablepipe.forms import form_of


def repeated_form(width, pipeline, times):
    """Return the form of the pipeline that repeats a pipeline."""
    check_width(width)
    check_pipeline(width, pipeline)
    if times < 0:
        raise InvalidNumber(times)
    # All rules come from the first repetition, and each later one sorts by the same columns again. Only the
    # direction of the position may change from one to the next, so two repetitions more change nothing.
    enough = times if times < 2 else 2 - times % 2
    return form_of(width, pipeline * enough)
