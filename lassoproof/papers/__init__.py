"""Written answers: certificates and lassos as lines, and audits of texts."""
