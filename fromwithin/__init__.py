"""Planning moves when nobody may enter an empty room."""
