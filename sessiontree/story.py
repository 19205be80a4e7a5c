"""The calls on a session, and their answers."""

from sessiontree.calls import LOAD, NEW, read_calls
from sessiontree.refusals import NO_PLACE, NO_SESSION, NOT_THERE, OUT_OF_RANGE
from sessiontree.sentences import read_sentence, told_by, world_behind
from sessiontree.tree import ROOT, Session

MOST_CELLS = 16
MOST_TOLD = 1000000000000000000


# What the calls of one list are made on; new puts another session in the place of the one before.
class Story:
    def __init__(self):
        self.session = None


def answer_new(story, call):
    cells = call.numbers[0]
    seed = call.numbers[1]
    if cells < 1 or cells > MOST_CELLS or seed < 0 or seed > MOST_TOLD:
        return [OUT_OF_RANGE]
    story.session = Session(cells, seed)
    return [0]


def answer_say(story, call):
    session = story.session
    sentence = read_sentence(call.text)
    if sentence is None:
        return [OUT_OF_RANGE]
    behind = world_behind(sentence, session.world)
    if behind is None:
        return [NOT_THERE]
    if not session.has_place():
        return [NO_PLACE]
    session.say(sentence, behind)
    return [0, session.here] + told_by(sentence, session.world)


def answer_undo(story, call):
    session = story.session
    steps = call.numbers[0]
    if steps < 1 or steps > MOST_TOLD:
        return [OUT_OF_RANGE]
    if steps > len(session.way_to(session.here)):
        return [NOT_THERE]
    for step in range(steps):
        session.go_up()
    return [0, session.here]


def answer_redo(story, call):
    session = story.session
    child = session.nodes[session.here].gone_to
    if child is None:
        return [NOT_THERE]
    session.go_down(child)
    return [0, child]


def answer_goto(story, call):
    number = call.numbers[0]
    if number not in story.session.nodes:
        return [NOT_THERE]
    story.session.go_to(number)
    return [0]


def answer_state(story, call):
    session = story.session
    return [0, session.here, session.world[-1]] + session.world[:-1]


def answer_path(story, call):
    session = story.session
    return [0] + session.way_to(session.here)


def answer_children(story, call):
    number = call.numbers[0]
    if number not in story.session.nodes:
        return [NOT_THERE]
    # They were put there as they were made, so they ascend.
    return [0] + story.session.nodes[number].children


def answer_delta(story, call):
    number = call.numbers[0]
    if number == ROOT or number not in story.session.nodes:
        return [NOT_THERE]
    answer = [0]
    for change in story.session.nodes[number].changes:
        answer.extend(change)
    return answer


ANSWERS = {
    0: answer_new,
    1: answer_say,
    2: answer_undo,
    3: answer_redo,
    4: answer_goto,
    5: answer_state,
    6: answer_path,
    7: answer_children,
    8: answer_delta,
}


def answer_to(story, call):
    """The answer to one call: a 0 and what the call tells, or a refusal's number alone."""
    if story.session is None and call.number != NEW and call.number != LOAD:
        return [NO_SESSION]
    if call.number not in ANSWERS:
        raise NotImplementedError("this call is not built yet")
    answer = ANSWERS[call.number]
    return answer(story, call)


def answers(calls):
    """For each of the calls in the list, in order: how many numbers are answered, and these."""
    story = Story()
    given = []
    for call in read_calls(calls):
        answer = answer_to(story, call)
        given.append(len(answer))
        given.extend(answer)
    return given
