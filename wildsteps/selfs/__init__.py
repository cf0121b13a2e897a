"""Self maps of fields, and the fields within that they leave."""
