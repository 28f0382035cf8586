"""Graftform: turners of nested documents, from form to form."""
