"""Where a list of events isn't that of a story."""

from beadway.story import Story


def first_fault(row, kind, moment, events):
    """The count of the first event that isn't the story's one there, or that either lacks; None if all are."""
    story = Story(row, kind)
    story.to(moment)
    right = story.events()
    for count, (given, own) in enumerate(zip(events, right)):
        if given != own:
            return count
    if len(events) == len(right):
        return None
    return min(len(events), len(right))
