"""Near roots, fences, and leads from field to field."""
