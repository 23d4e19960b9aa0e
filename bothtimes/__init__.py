"""What was known when: corrections, keys and references of tables over days."""
