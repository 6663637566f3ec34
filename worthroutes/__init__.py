"""Routes of most worth: a railway map, its routes and the trains that run on them."""
