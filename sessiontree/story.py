"""The calls on a session, and their answers."""

from sessiontree.calls import LOAD, NEW, read_calls
from sessiontree.refusals import HERE_WOULD_GO, NO_PLACE, NO_SAVE, NO_SESSION, NOT_THERE, OUT_OF_RANGE
from sessiontree.refusals import WAYS_TOUCH, WRONG_SUM
from sessiontree.saves import read_save, save_of
from sessiontree.sentences import changes_between, read_sentence, told_by, ways_touch, world_behind, world_behind_all
from sessiontree.texts import sum_of
from sessiontree.transcripts import transcript_of, wrong_line
from sessiontree.tree import ROOT, Session, may_begin, shared_length

MOST_STEPS = 1000000000000000000


# What the calls of one list are made on; new and load put another session in the place of the one before.
class Story:
    def __init__(self):
        self.session = None


def answer_new(story, call):
    cells = call.numbers[0]
    seed = call.numbers[1]
    if not may_begin(cells, seed):
        return [OUT_OF_RANGE]
    story.session = Session(cells, seed)
    return [0]


def answer_say(story, call):
    session = story.session
    sentence = read_sentence(call.text)
    if sentence is None:
        return [OUT_OF_RANGE]
    behind = world_behind(sentence, session.world)
    if behind is None:
        return [NOT_THERE]
    if not session.has_place_for(1):
        return [NO_PLACE]
    session.say(sentence, behind)
    return [0, session.here] + told_by(sentence, session.world)


def answer_undo(story, call):
    session = story.session
    steps = call.numbers[0]
    if steps < 1 or steps > MOST_STEPS:
        return [OUT_OF_RANGE]
    if steps > len(session.way_to(session.here)):
        return [NOT_THERE]
    for step in range(steps):
        session.go_up()
    return [0, session.here]


def answer_redo(story, call):
    session = story.session
    child = session.nodes[session.here].gone_to
    if child is None:
        return [NOT_THERE]
    session.go_down(child)
    return [0, child]


def answer_goto(story, call):
    number = call.numbers[0]
    if number not in story.session.nodes:
        return [NOT_THERE]
    story.session.go_to(number)
    return [0]


def answer_state(story, call):
    session = story.session
    return [0, session.here, session.world[-1]] + session.world[:-1]


def answer_path(story, call):
    session = story.session
    return [0] + session.way_to(session.here)


def answer_children(story, call):
    number = call.numbers[0]
    if number not in story.session.nodes:
        return [NOT_THERE]
    # They were put there as they were made, so they ascend.
    return [0] + story.session.nodes[number].children


def told_changes(changes):
    """The answer that tells the changes, number by number."""
    answer = [0]
    for change in changes:
        answer.extend(change)
    return answer


def answer_delta(story, call):
    number = call.numbers[0]
    if number == ROOT or number not in story.session.nodes:
        return [NOT_THERE]
    return told_changes(story.session.nodes[number].changes)


def answer_diff(story, call):
    session = story.session
    before = call.numbers[0]
    behind = call.numbers[1]
    if before not in session.nodes or behind not in session.nodes:
        return [NOT_THERE]
    return told_changes(changes_between(session.world_at(before), session.world_at(behind)))


def answer_merge(story, call):
    session = story.session
    number = call.numbers[0]
    if number not in session.nodes:
        return [NOT_THERE]
    way_here = session.way_to(session.here)
    way_there = session.way_to(number)
    shared = shared_length(way_here, way_there)
    added = session.sentences_of(way_there[shared:])
    if not session.has_place_for(len(added)):
        return [NO_PLACE]
    if ways_touch(added, session.sentences_of(way_here[shared:]), session.cells):
        return [WAYS_TOUCH]
    # What they look at is here as it was where they were said, so the story refuses none of them.
    session.say_all(added)
    return [0, session.here, len(added)]


def answer_save(story, call):
    session = story.session
    return [0] + save_of(session.cells, session.seed, session.sentences_of(session.way_to(session.here)))


def answer_load(story, call):
    save = read_save(call.text)
    if save is None:
        return [NO_SAVE]
    if not save.sum_is_right:
        return [WRONG_SUM]
    session = Session(save.cells, save.seed)
    # A sentence beyond the last that has place is held against the story too: its refusal is nearer to 0.
    if world_behind_all(save.sentences, session.first_world) is None:
        return [NOT_THERE]
    if not session.has_place_for(len(save.sentences)):
        return [NO_PLACE]
    session.say_all(save.sentences)
    story.session = session
    return [0, session.here]


def answer_sum(story, call):
    return [0, sum_of(call.text)]


def answer_script(story, call):
    session = story.session
    return [0] + transcript_of(session.sentences_of(session.way_to(session.here)), session.first_world)


def answer_hold(story, call):
    line = wrong_line(call.text, story.session.first_world)
    if line is None:
        return [0, 1]
    return [0, 0, line]


def answer_prune(story, call):
    session = story.session
    number = call.numbers[0]
    if number == ROOT or number in session.way_to(session.here):
        return [HERE_WOULD_GO]
    if number not in session.nodes:
        return [NOT_THERE]
    return [0, session.prune(number)]


ANSWERS = {
    0: answer_new,
    1: answer_say,
    2: answer_undo,
    3: answer_redo,
    4: answer_goto,
    5: answer_state,
    6: answer_path,
    7: answer_children,
    8: answer_delta,
    9: answer_diff,
    10: answer_merge,
    11: answer_save,
    12: answer_load,
    13: answer_sum,
    14: answer_script,
    15: answer_hold,
    16: answer_prune,
}


def answer_to(story, call):
    """The answer to one call: a 0 and what the call tells, or a refusal's number alone."""
    if story.session is None and call.number != NEW and call.number != LOAD:
        return [NO_SESSION]
    answer = ANSWERS[call.number]
    return answer(story, call)


def answers(calls):
    """For each of the calls in the list, in order: how many numbers are answered, and these."""
    story = Story()
    given = []
    for call in read_calls(calls):
        answer = answer_to(story, call)
        given.append(len(answer))
        given.extend(answer)
    return given
