"""Texts that are changed a little, for readers that must tell where a text is bad."""


def changed_texts(text, signs):
    """The text with one sign replaced, put in or taken out, cut, and with lines left out, doubled or exchanged."""
    for at in range(len(text) + 1):
        yield text[:at]
        yield text[at:]
        yield text[:at] + text[at + 1:]
        for sign in signs:
            yield text[:at] + sign + text[at:]
            yield text[:at] + sign + text[at + 1:]
    lines = text.split("\n")
    for at in range(len(lines) + 1):
        yield "\n".join(lines[:at] + [""] + lines[at:])
        yield "\n".join(lines[:at] + [" "] + lines[at:])
        yield "\n".join(lines[:at] + lines[at + 1:])
        yield "\n".join(lines[:at] + lines[at:at + 1] * 2 + lines[at + 1:])
        for other in range(at + 1, len(lines)):
            exchanged = list(lines)
            exchanged[at], exchanged[other] = lines[other], lines[at]
            yield "\n".join(exchanged)
    yield ""
    yield text + "\n"
    yield "\n" + text
    yield text + "\n" + text
