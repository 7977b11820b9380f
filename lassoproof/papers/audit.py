"""Writing the answer of a check, and audits of texts (point 8.4)."""

from lassoproof.checking.checker import accepts, refutes
from lassoproof.errors import InvalidPaper
from lassoproof.language.values import require_names
from lassoproof.papers.certificates import read_certificate, write_certificate
from lassoproof.papers.lassos import read_lasso, write_lasso


def write_answer(verdict):
    """The written certificate or the written lasso of a verdict."""
    if verdict.holds:
        return write_certificate(verdict.certificate)
    return write_lasso(verdict.stem, verdict.loop)


def audit(system, formula, text):
    """What a text shows for a formula on a system: "holds", "fails" or "nothing"."""
    require_names(formula, system.names)
    certificate = certificate_in(text)
    if certificate is not None:
        return "holds" if accepts(system, formula, certificate) else "nothing"
    lasso = lasso_in(text)
    if lasso is not None and refutes(system, formula, lasso[0], lasso[1]):
        return "fails"
    return "nothing"


def certificate_in(text):
    """The Certificate that a text writes, or None."""
    try:
        return read_certificate(text)
    except InvalidPaper:
        return None


def lasso_in(text):
    """The lasso that a text writes, or None."""
    try:
        return read_lasso(text)
    except InvalidPaper:
        return None
