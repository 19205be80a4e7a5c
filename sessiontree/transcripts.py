"""Transcripts: each sentence of a way with what it tells, and a text held against the story."""

from sessiontree.sentences import read_sentence, told_by, world_behind
from sessiontree.texts import LINE_END, bytes_of, parts_between


def line_told(sentence, world):
    """The line behind the sentence, where this is the world behind it."""
    line = bytes_of("=")
    for value in told_by(sentence, world):
        line.extend(bytes_of(f" {value}"))
    return line


def transcript_of(sentences, world):
    """The bytes of the transcript of the sentences from this world on; the story refuses none of them."""
    text = []
    for sentence in sentences:
        world = world_behind(sentence, world)
        text.extend(sentence.text + [LINE_END] + line_told(sentence, world) + [LINE_END])
    return text


def wrong_line(text, world):
    """The number of the first line, from 1, where the text is no transcript from this world on, None if it is one."""
    lines = parts_between(text, LINE_END)
    if len(lines[-1]) > 0:
        return len(lines)
    # What stands behind the last byte 10 is no line.
    lines.pop()
    sentence = None
    for number, line in enumerate(lines, start=1):
        if sentence is None:
            sentence = read_sentence(line)
            if sentence is None:
                return number
            world = world_behind(sentence, world)
            if world is None:
                return number
        elif line == line_told(sentence, world):
            sentence = None
        else:
            return number
    return None if sentence is None else len(lines) + 1
